"""The checker: goes through a book row by row, and tells whether it shows a race's order."""

from leadtimes.field import Field
from leadtimes.lines import is_ahead
from leadtimes.numbers import is_less
from leadtimes.orders import neighbours
from leadtimes.papers import stays_ahead


class Reading:
    """A book as it is gone through, for a log: the list of runners, and the deeds done so far."""

    def __init__(self, log):
        self.deeds = list(log)
        self.done = 0
        self.field = Field()
        self.listed = []
        self.since = None

    def time_of(self, row):
        """The time of a row that would be the next one, None of a deed row without a deed."""
        if row[0] == "pass":
            return row[1]
        return self.deeds[self.done][1] if self.done < len(self.deeds) else None

    def is_right(self, row, end):
        """Whether a row is right as the next one, for an end."""
        time = self.time_of(row)
        if time is None or is_less(end, time) or not self.holds_till(time):
            return False
        return self.is_right_pass(row) if row[0] == "pass" else self.is_right_deed(row)

    def holds_till(self, time):
        """Whether a time may follow the row ahead: not earlier, and the list is right till then."""
        if self.since is None or self.since == time:
            return True
        if is_less(time, self.since):
            return False
        pairs = neighbours(self.listed)
        return all([stays_ahead(self.field.running, pair[0], pair[1], self.since, time) for pair in pairs])

    def is_right_deed(self, row):
        """Whether a deed row tells a right place for the next deed."""
        deed = self.deeds[self.done]
        at = row[1]
        if deed[0] == "join":
            return 0 <= at <= len(self.listed)
        return 0 <= at < len(self.listed) and self.listed[at] == deed[2]

    def is_right_pass(self, row):
        """Whether a pass row tells two of which the one behind is ahead from then on."""
        at = row[2]
        if not 0 <= at < len(self.listed) - 1:
            return False
        return is_ahead(self.field.running, self.listed[at + 1], self.listed[at], row[1])

    def do(self, row):
        """Does a row that is right."""
        self.since = self.time_of(row)
        if row[0] == "pass":
            self.listed.insert(row[2], self.listed.pop(row[2] + 1))
        else:
            self.do_deed(row[1])

    def do_deed(self, at):
        """Does the next deed, of the runner at a place of the list."""
        deed = self.deeds[self.done]
        joined = self.field.do(deed)
        self.done += 1
        if deed[0] == "join":
            self.listed.insert(at, joined)
        elif deed[0] == "leave":
            self.listed.pop(at)

    def is_complete(self, end):
        """Whether all deeds are done and the list is right from the last row up to the end."""
        if self.done < len(self.deeds):
            return False
        pairs = neighbours(self.listed)
        # Two change at most once, so who is ahead first and last is ahead all the time between.
        times = [self.since, end]
        return all([is_ahead_at_all(self.field.running, pair, times) for pair in pairs])


def is_ahead_at_all(lines, pair, times):
    """Whether the first of two is ahead of the second from each of some times on."""
    return all([is_ahead(lines, pair[0], pair[1], time) for time in times])


def fault(log, end, book):
    """None of a book that is let by, else the number of its first row that isn't right.

    Where all rows are right, but something lacks behind them, it is how many rows there are.
    """
    reading = Reading(log)
    for at, row in enumerate(book):
        if not reading.is_right(row, end):
            return at
        reading.do(row)
    return None if reading.is_complete(end) else len(book)


def order_by(log, book, time):
    """The list of a book that is let by, when all rows not later than a time are done."""
    reading = Reading(log)
    for row in book:
        if is_less(time, reading.time_of(row)):
            break
        reading.do(row)
    return list(reading.listed)
