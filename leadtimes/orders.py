"""Orders: all runners at a time, each ahead of the next one, and when that changes."""

from leadtimes.lines import meeting, place_at, standing, stands_ahead
from leadtimes.numbers import difference_of, is_less, rising


def order_among(lines, runners, time):
    """Some runners in a new list, each ahead of the next one from a time on."""
    order = []
    for runner in runners:
        stand = standing(lines, runner, time)
        at = 0
        while at < len(order) and stands_ahead(order[at], stand):
            at += 1
        order.insert(at, stand)
    return [stand[2] for stand in order]


def order_at(lines, time):
    """The order of all runners at a time."""
    return order_among(lines, list(range(len(lines))), time)


def neighbours(order):
    """Each runner of an order but the last one, with the next one: a list of tuples."""
    return list(zip(order, order[1:]))


def nearest(lines, time):
    """The neighbours that are the least apart at a time: a tuple (one, other, gap), or None."""
    told = None
    for one, other in neighbours(order_at(lines, time)):
        gap = difference_of(place_at(lines[one], time), place_at(lines[other], time))
        if told is None or is_less(gap, told[2]):
            told = (one, other, gap)
    return told


def all_changes(lines):
    """A dict of each time at which some two change, with the list of these twos."""
    pairs = {}
    for one in range(len(lines)):
        for other in range(len(lines)):
            # Ahead of their meeting the less steep one is ahead, from it on the other one.
            if is_less(lines[one][1], lines[other][1]):
                time = meeting(lines[one], lines[other])[1]
                pairs.setdefault(time, []).append((one, other))
    return pairs


def changes(lines, low, high):
    """The changes behind low, up to high: a list of tuples (time, pairs)."""
    pairs = all_changes(lines)
    times = [time for time in pairs if is_less(low, time) and not is_less(high, time)]
    return [(time, sorted(pairs[time])) for time in rising(times)]
