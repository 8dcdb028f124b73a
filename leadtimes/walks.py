"""Walks: an order that is kept from time to time, by papers that fail one by one."""

from leadtimes.errors import NoTime
from leadtimes.numbers import is_less
from leadtimes.orders import order_at
from leadtimes.papers import first_to_fail, papers_among


def fail_next(lines, order, time, limit):
    """Exchanges in the order, kept up to a time, the two of the paper that fails first.

    Told are the place of the two and the time of the exchange. Where no paper fails, or none up to
    the limit (None: there is no limit), None is told and nothing done.
    """
    papers = papers_among(lines, order, time)
    at = first_to_fail(papers)
    if at is None:
        return None
    till = papers[at][2]
    if limit is not None and is_less(limit, till):
        return None
    order[at] = papers[at][1]
    order[at + 1] = papers[at][0]
    return (at, till)


class Walk:
    """A walk of the runners of some lines, from a time on."""

    def __init__(self, lines, time):
        self.lines = list(lines)
        self.now = time
        self.listed = order_at(lines, time)

    def time(self):
        """The time that the walk has come to."""
        return self.now

    def order(self):
        """The order as far as the walk has come."""
        return list(self.listed)

    def papers(self):
        """The papers of all neighbours in the walk's order, from the front."""
        return papers_among(self.lines, self.listed, self.now)

    def step_by(self, limit):
        """A step, where there is one up to the limit (None: there is no limit)."""
        failed = fail_next(self.lines, self.listed, self.now, limit)
        if failed is None:
            return None
        at = failed[0]
        self.now = failed[1]
        return (self.now, self.listed[at + 1], self.listed[at])

    def step(self):
        """The next paper fails: a tuple (time, one, other), or None where none will."""
        return self.step_by(None)

    def go(self, time):
        """All steps up to a time: the list of what they tell; NoTime for an earlier time."""
        if is_less(time, self.now):
            raise NoTime("the walk is past this time")
        told = []
        step = self.step_by(time)
        while step is not None:
            told.append(step)
            step = self.step_by(time)
        self.now = time
        return told
