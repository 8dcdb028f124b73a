"""Lines: tuples (start, slope) of two numbers; runners are told by a list of them."""

from leadtimes.numbers import difference_of, is_less, is_whole, product_of, quotient_of, sum_of


def place_at(line, time):
    """The place of a line at a time."""
    return sum_of(line[0], product_of(line[1], time))


def line_through(time, place, slope):
    """The line of a slope that has a place at a time."""
    return (difference_of(place, product_of(slope, time)), slope)


def meeting(one, other):
    """When two lines meet: ("never",), ("always",) or ("at", time)."""
    # Numbers are in lowest terms, so equal tuples are just the equal numbers.
    if one[1] == other[1]:
        return ("always",) if one[0] == other[0] else ("never",)
    gap = difference_of(other[0], one[0])
    closing = difference_of(one[1], other[1])
    return ("at", quotient_of(gap, closing))


def is_runner(lines, thing):
    """Whether a thing of whatever kind is the number of a runner."""
    return is_whole(thing) and 0 <= thing < len(lines)


def standing(lines, runner, time):
    """What tells who is ahead from a time on: a runner's place then, its slope and its number."""
    return (place_at(lines[runner], time), lines[runner][1], runner)


def stands_ahead(one, other):
    """Whether the runner of one standing is ahead of that of another, both of one time."""
    if one[0] != other[0]:
        return is_less(other[0], one[0])
    if one[1] != other[1]:
        return is_less(other[1], one[1])
    return one[2] < other[2]


def is_ahead(lines, one, other, time):
    """Whether runner one is ahead of another runner from a time on."""
    return stands_ahead(standing(lines, one, time), standing(lines, other, time))


def next_change(lines, one, other, time):
    """The first later time from which on the other one of two runners is ahead, or None."""
    met = meeting(lines[one], lines[other])
    # At the meeting itself the steeper one is ahead already, and stays so.
    if met[0] == "at" and is_less(time, met[1]):
        return met[1]
    return None
