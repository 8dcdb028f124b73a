"""Waiting: a list of pairs (time, key) that wait for their times, the first one at hand."""

from leadtimes.errors import NoKey
from leadtimes.numbers import is_less


def comes_ahead(one, other):
    """Whether one pair comes ahead of another: by time, then by key."""
    if one[0] != other[0]:
        return is_less(one[0], other[0])
    return one[1] < other[1]


def place_of(pairs, pair):
    """How many of the pairs, in their order, come ahead of a pair."""
    low = 0
    high = len(pairs)
    while low < high:
        middle = (low + high) // 2
        if comes_ahead(pairs[middle], pair):
            low = middle + 1
        else:
            high = middle
    return low


def shape_from(pairs, at):
    """The shape of those pairs that hang beneath the one at a place, this one on top."""
    if at >= len(pairs):
        return None
    # Beneath place k hang 2k + 1 and 2k + 2: rows fill from the left, so the way to the right is
    # never longer than another, and later places hold later pairs.
    return (pairs[at], shape_from(pairs, 2 * at + 1), shape_from(pairs, 2 * at + 2))


class Waiting:
    """A waiting list, at first without pairs."""

    def __init__(self):
        self.kept = []

    def put(self, time, key):
        """Puts a pair in; NoKey where it is there."""
        pair = (time, key)
        at = place_of(self.kept, pair)
        if at < len(self.kept) and self.kept[at] == pair:
            raise NoKey("the pair is there already")
        self.kept.insert(at, pair)

    def take(self, time, key):
        """Takes a pair out; NoKey where it isn't there."""
        pair = (time, key)
        at = place_of(self.kept, pair)
        if at == len(self.kept) or self.kept[at] != pair:
            raise NoKey("the pair isn't there")
        self.kept.pop(at)

    def first(self):
        """The first pair, or None."""
        return self.kept[0] if self.kept != [] else None

    def many(self):
        """How many pairs there are."""
        return len(self.kept)

    def pairs(self):
        """All pairs in their order."""
        return list(self.kept)

    def shape(self):
        """The pairs as tuples (pair, left, right), None without pairs."""
        return shape_from(self.kept, 0)
