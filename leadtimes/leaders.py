"""Leaders: who is ahead of all others, and since when."""

from leadtimes.lines import is_ahead, meeting, place_at
from leadtimes.numbers import is_less, is_number, is_whole


def leads_at_first(one, other):
    """Whether one line is ahead of another, unlike one at all times that are early enough."""
    if one[1] != other[1]:
        return is_less(one[1], other[1])
    return is_less(other[0], one[0])


def first_leader(lines):
    """The leader at all times that are early enough, of at least one runner."""
    leader = 0
    for runner in range(1, len(lines)):
        # Of alike lines the lesser number stays, so an equal one doesn't take the lead.
        if leads_at_first(lines[runner], lines[leader]):
            leader = runner
    return leader


def next_leader(lines, leader):
    """Who leads next behind a leader, as a tuple (runner, since), or None."""
    told = None
    for runner in range(len(lines)):
        # Only a steeper one comes past the leader, and it does so just once.
        if is_less(lines[leader][1], lines[runner][1]):
            time = meeting(lines[leader], lines[runner])[1]
            if told is None or comes_sooner(lines, runner, time, told):
                told = (runner, time)
    return told


def comes_sooner(lines, runner, time, told):
    """Whether a runner that passes the leader at a time does so ahead of what is told."""
    if time != told[1]:
        return is_less(time, told[1])
    return is_ahead(lines, runner, told[0], time)


def leaders(lines):
    """The row of leaders: tuples (runner, since)."""
    if len(lines) == 0:
        return []
    row = []
    stretch = (first_leader(lines), None)
    while stretch is not None:
        row.append(stretch)
        stretch = next_leader(lines, stretch[0])
    return row


def is_stretch(stretch):
    """Whether a tuple of two has the kinds of (runner, since)."""
    return is_whole(stretch[0]) and (stretch[1] is None or is_number(stretch[1]))


def is_row(lines, row):
    """Whether a list of tuples is the row of leaders."""
    # True is equal to 1 for Python, so equal rows may still be of unlike kinds.
    return row == leaders(lines) and all([is_stretch(stretch) for stretch in row])


def leader_by(row, time):
    """The runner that a row tells at a time."""
    leader = row[0][0]
    for stretch in row[1:]:
        if not is_less(time, stretch[1]):
            leader = stretch[0]
    return leader


def front(lines, time):
    """The runners than whose places at a time none is greater, rising."""
    places = [place_at(line, time) for line in lines]
    runners = []
    for runner in range(len(lines)):
        if not any([is_less(places[runner], place) for place in places]):
            runners.append(runner)
    return runners
