"""Logs: lists of the deeds of a race, and what is so at a time by them."""

from leadtimes.errors import NoLog
from leadtimes.field import Field
from leadtimes.numbers import is_less, is_number, is_whole
from leadtimes.orders import order_among

MOST_DEEDS = 40
GREATEST_TOP = 999999999
GREATEST_BOTTOM = 12


def is_deed_number(thing):
    """Whether a thing of whatever kind is a number as deeds have them."""
    if not is_number(thing):
        return False
    return abs(thing[0]) <= GREATEST_TOP and thing[1] <= GREATEST_BOTTOM


def is_deed(thing):
    """Whether a thing of whatever kind has the form of a deed."""
    if not isinstance(thing, tuple) or len(thing) < 3 or not isinstance(thing[0], str):
        return False
    if thing[0] == "join":
        return len(thing) == 4 and all([is_deed_number(part) for part in thing[1:]])
    if thing[0] == "leave":
        return len(thing) == 3 and is_deed_number(thing[1]) and is_whole(thing[2])
    if thing[0] == "turn":
        return len(thing) == 4 and is_whole(thing[2]) and is_deed_number(thing[1]) and is_deed_number(thing[3])
    return False


def log_of(thing):
    """The log that a thing of whatever kind is; NoLog where it is none."""
    if not isinstance(thing, list):
        raise NoLog(0)
    field = Field()
    for at, deed in enumerate(thing):
        if at == MOST_DEEDS or not is_deed(deed) or not field.allows(deed):
            raise NoLog(at)
        field.do(deed)
    return list(thing)


def field_then(log, time):
    """The field when all deeds not later than a time are done."""
    field = Field()
    for deed in log:
        if not is_less(time, deed[1]):
            field.do(deed)
    return field


def runners_then(log, time):
    """Who runs at a time, rising."""
    return field_then(log, time).runners()


def line_then(log, runner, time):
    """The line that a runner has at a time, None where it doesn't run."""
    return field_then(log, time).running.get(runner)


def order_then(log, time):
    """The order at a time of those who run."""
    field = field_then(log, time)
    return order_among(field.running, field.runners(), time)
