"""The refusals: one class for each, all of them straight under LeadError."""


class LeadError(ValueError):
    """Any refusal."""


class NoNumber(LeadError):
    """What was handed in makes no number."""


class NoKey(LeadError):
    """A pair is there already, or isn't there."""


class NoTime(LeadError):
    """A time is too early."""


class NoLog(LeadError):
    """A thing is no log, by the deed whose number is at."""

    def __init__(self, at):
        LeadError.__init__(self, f"no log, by deed {at}")
        self.at = at


class NoText(LeadError):
    """A thing is no text of what is read, by the line whose number is line."""

    def __init__(self, line):
        LeadError.__init__(self, f"no such text, by line {line}")
        self.line = line


class NoRow(LeadError):
    """A row is none that the desk knows."""
