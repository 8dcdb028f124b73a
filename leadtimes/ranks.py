"""Ranks: who has just so many others ahead, and since when."""

from leadtimes.numbers import difference_of, rising
from leadtimes.orders import all_changes, order_at


def stretch_times(lines):
    """A time ahead of all changes, then each time of a change, rising."""
    times = rising(list(all_changes(lines)))
    if times == []:
        return [(0, 1)]
    return [difference_of(times[0], (1, 1))] + times


def rank_row(lines, k):
    """The row of the rank k: tuples (runner, since)."""
    if k >= len(lines):
        return []
    times = stretch_times(lines)
    row = [(order_at(lines, times[0])[k], None)]
    for time in times[1:]:
        runner = order_at(lines, time)[k]
        if runner != row[-1][0]:
            row.append((runner, time))
    return row
