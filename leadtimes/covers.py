"""Covers: two runners of which at each time one is ahead of a third."""

from leadtimes.lines import is_ahead, is_runner, meeting
from leadtimes.numbers import is_less

ANY_TIME = (0, 1)


def when_ahead(lines, one, runner):
    """The times from which on one is ahead of a runner.

    They are ("always",), ("never",), ("from", time), the time too, or ("until", time), without it.
    """
    met = meeting(lines[one], lines[runner])
    if met[0] != "at":
        # These two never change, so one time is as good as another.
        return ("always",) if is_ahead(lines, one, runner, ANY_TIME) else ("never",)
    if is_less(lines[runner][1], lines[one][1]):
        return ("from", met[1])
    return ("until", met[1])


def are_all_times(some, others):
    """Whether the times of two tuples, as when_ahead tells them, are all times together."""
    words = (some[0], others[0])
    if "always" in words:
        return True
    if words == ("from", "until"):
        return not is_less(others[1], some[1])
    if words == ("until", "from"):
        return not is_less(some[1], others[1])
    return False


def cover(lines, runner):
    """A cover of a runner, a tuple of two runners, or None where it is in the row of leaders."""
    rest = [one for one in range(len(lines)) if one != runner]
    times = [when_ahead(lines, one, runner) for one in rest]
    for at in range(len(rest)):
        for later in range(at, len(rest)):
            if are_all_times(times[at], times[later]):
                return (rest[at], rest[later])
    return None


def is_cover(lines, runner, one, other):
    """Whether two whole numbers are a cover of a runner."""
    if not is_runner(lines, one) or not is_runner(lines, other) or runner in (one, other):
        return False
    return are_all_times(when_ahead(lines, one, runner), when_ahead(lines, other, runner))
