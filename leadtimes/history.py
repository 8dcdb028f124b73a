"""The history of a race: who led it when, by its log."""

from leadtimes.field import Field
from leadtimes.leaders import leader_by, leaders
from leadtimes.numbers import is_less


def leads(field, since, till):
    """Who leads the field from a time on, earlier than till: tuples (runner, since).

    Till is a later time, or None where there is no end.
    """
    runners = field.runners()
    if runners == []:
        return [(None, since)]
    row = leaders(field.lines_running())
    told = [(runners[leader_by(row, since)], since)]
    for stretch in row[1:]:
        if is_less(since, stretch[1]) and (till is None or is_less(stretch[1], till)):
            told.append((runners[stretch[0]], stretch[1]))
    return told


def leaders_in(log):
    """The row of leaders of a log: tuples (runner, since), runner None where nobody runs."""
    row = [(None, None)]
    field = Field()
    for at, deed in enumerate(log):
        field.do(deed)
        till = log[at + 1][1] if at + 1 < len(log) else None
        # Of deeds of one time only what is so behind the last one counts.
        if till != deed[1]:
            for stretch in leads(field, deed[1], till):
                if stretch[0] != row[-1][0]:
                    row.append(stretch)
    return row
