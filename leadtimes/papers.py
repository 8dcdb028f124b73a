"""Papers: tuples (one, other, till) that say one is ahead of another, and till when."""

from leadtimes.lines import is_ahead, is_runner, next_change
from leadtimes.numbers import is_less
from leadtimes.orders import neighbours, order_at


def stays_ahead(lines, one, other, time, till):
    """Whether one is ahead of another at each time from a time on, earlier than till.

    Till is a later time, or None where all times from then on are asked of.
    """
    if not is_ahead(lines, one, other, time):
        return False
    change = next_change(lines, one, other, time)
    return change is None or (till is not None and not is_less(change, till))


def is_right(lines, time, paper):
    """Whether a paper is right from a time on."""
    one = paper[0]
    other = paper[1]
    till = paper[2]
    if not is_runner(lines, one) or not is_runner(lines, other) or one == other:
        return False
    if till is not None and not is_less(time, till):
        return False
    return stays_ahead(lines, one, other, time, till)


def till_of(lines, one, other, time):
    """Till when one that stands ahead of another may: till the time itself where it isn't ahead."""
    if is_ahead(lines, other, one, time):
        return time
    return next_change(lines, one, other, time)


def papers_among(lines, order, time):
    """The papers of all neighbours in an order that may be out of date, from the front."""
    return [(pair[0], pair[1], till_of(lines, pair[0], pair[1], time)) for pair in neighbours(order)]


def papers_at(lines, time):
    """The papers of all neighbours in the order at a time, from the front."""
    return papers_among(lines, order_at(lines, time), time)


def first_to_fail(papers):
    """The place of the paper with the least till, the first such, or None where no till is a time."""
    told = None
    for at, paper in enumerate(papers):
        if paper[2] is not None and (told is None or is_less(paper[2], papers[told][2])):
            told = at
    return told


def shown(lines, time, papers):
    """What papers show at a time: a tuple (order, until), or None where they don't show it."""
    if not all([is_right(lines, time, paper) for paper in papers]):
        return None
    order = order_at(lines, time)
    pairs = [(paper[0], paper[1]) for paper in papers]
    if not all([pair in pairs for pair in neighbours(order)]):
        return None
    at = first_to_fail(papers)
    return (order, None if at is None else papers[at][2])
