"""Lines: tuples (start, slope) of two numbers; runners are told by a list of them."""

from leadtimes.numbers import difference_of, is_less, product_of, quotient_of, sum_of


def place_at(line, time):
    """The place of a line at a time."""
    return sum_of(line[0], product_of(line[1], time))


def line_through(time, place, slope):
    """The line of a slope that has a place at a time."""
    return (difference_of(place, product_of(slope, time)), slope)


def meeting(one, other):
    """When two lines meet: ("never",), ("always",) or ("at", time)."""
    # Numbers are in lowest terms, so equal tuples are just the equal numbers.
    if one[1] == other[1]:
        return ("always",) if one[0] == other[0] else ("never",)
    gap = difference_of(other[0], one[0])
    closing = difference_of(one[1], other[1])
    return ("at", quotient_of(gap, closing))


def is_ahead(lines, one, other, time):
    """Whether runner one is ahead of another runner from a time on."""
    one_place = place_at(lines[one], time)
    other_place = place_at(lines[other], time)
    if one_place != other_place:
        return is_less(other_place, one_place)
    one_slope = lines[one][1]
    other_slope = lines[other][1]
    if one_slope != other_slope:
        return is_less(other_slope, one_slope)
    return one < other


def next_change(lines, one, other, time):
    """The first later time from which on the other one of two runners is ahead, or None."""
    met = meeting(lines[one], lines[other])
    # At the meeting itself the steeper one is ahead already, and stays so.
    if met[0] == "at" and is_less(time, met[1]):
        return met[1]
    return None
