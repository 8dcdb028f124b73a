"""Books: made of a log, so that the checker lets them by."""

from leadtimes.errors import NoTime
from leadtimes.field import Field
from leadtimes.lines import is_ahead
from leadtimes.numbers import is_less
from leadtimes.walks import fail_next


def passes(field, order, time):
    """Exchanges in the order, from the field's last deed on, up to a time: the pass rows of it."""
    rows = []
    # Ahead of all deeds there is no last one, but nobody to be exchanged either.
    failed = fail_next(field.running, order, field.last, time)
    while failed is not None:
        rows.append(("pass", failed[1], failed[0]))
        failed = fail_next(field.running, order, failed[1], time)
    return rows


def join_place(field, order, runner, time):
    """How many in an order are ahead of a runner that joins at a time."""
    return len([one for one in order if is_ahead(field.running, one, runner, time)])


def do_deed(field, order, deed):
    """Does a deed, in the order too; tells its row."""
    joined = field.do(deed)
    if deed[0] == "join":
        at = join_place(field, order, joined, deed[1])
        order.insert(at, joined)
        return ("deed", at)
    at = order.index(deed[2])
    if deed[0] == "leave":
        order.pop(at)
    return ("deed", at)


def book_of(log, end):
    """A book of a log, up to an end; NoTime where the end is earlier than a deed."""
    if len(log) > 0 and is_less(end, log[-1][1]):
        raise NoTime("the end is earlier than a deed")
    field = Field()
    order = []
    rows = []
    for deed in log:
        # Also at the time of the deed ahead: a turn may have left the order to be mended.
        rows.extend(passes(field, order, deed[1]))
        rows.append(do_deed(field, order, deed))
    rows.extend(passes(field, order, end))
    return rows
