"""Races: deeds done one by one, with the order and the papers kept up."""

from leadtimes.errors import NoTime
from leadtimes.field import Field
from leadtimes.logs import log_of
from leadtimes.numbers import is_less
from leadtimes.orders import order_among
from leadtimes.papers import papers_among
from leadtimes.walks import Walk


def those_not_in(papers, others):
    """The papers that are not among others."""
    return [paper for paper in papers if paper not in others]


class Race:
    """A race, at first without deeds and without a time."""

    def __init__(self):
        self.deeds = []
        self.field = Field()
        self.now = None
        self.gone = []
        self.come = []

    def refuse_earlier(self, time):
        """NoTime for a time earlier than the race's."""
        if self.now is not None and is_less(time, self.now):
            raise NoTime("the race is past this time")

    def do(self, deed):
        """Does a deed; tells the number of a runner that joins, else None; NoLog or NoTime."""
        log = log_of(self.deeds + [deed])
        self.refuse_earlier(deed[1])
        self.now = deed[1]
        before = self.papers()
        told = self.field.do(deed)
        after = self.papers()
        self.deeds = log
        self.gone = those_not_in(before, after)
        self.come = those_not_in(after, before)
        return told

    def go(self, time):
        """Goes to a time: tells what is exchanged on the way, tuples (time, one, other); NoTime."""
        self.refuse_earlier(time)
        start = time if self.now is None else self.now
        steps = Walk(self.field.lines_running(), start).go(time)
        self.now = time
        # The walk numbers its runners from 0 on, in the order of their numbers in the race.
        runners = self.field.runners()
        return [(step[0], runners[step[1]], runners[step[2]]) for step in steps]

    def time(self):
        """The race's time, None until something is done."""
        return self.now

    def order(self):
        """The order of those who run at the race's time."""
        return order_among(self.field.running, self.field.runners(), self.now)

    def papers(self):
        """The papers of those who run at the race's time."""
        return papers_among(self.field.running, self.order(), self.now)

    def log(self):
        """The deeds done."""
        return list(self.deeds)

    def changed(self):
        """The papers that the last deed made go, and those that it made come."""
        return (list(self.gone), list(self.come))
