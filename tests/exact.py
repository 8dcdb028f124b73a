"""Reckons with Python's fractions, apart from the program, what the tests hold it against.

Who is ahead from a time on is told here by the places a little later, not by the slopes.
"""

import functools
import itertools
import random
from fractions import Fraction

from asking import fraction, line, number

SIXTY = 10 ** 60 - 1
HALF = Fraction(1, 2)


def exact_place(told, time):
    return fraction(told[0]) + fraction(told[1]) * time


def exact_meetings(lines):
    """Every time at which two of the lines meet but not always."""
    return list(meetings_of(tuple(lines)))


@functools.lru_cache(maxsize=4000)
def meetings_of(lines):
    times = []
    for one, other in itertools.combinations(lines, 2):
        apart = fraction(other[0]) - fraction(one[0])
        closing = fraction(one[1]) - fraction(other[1])
        if closing != 0:
            times.append(apart / closing)
    return sorted(set(times))


def times_about(marks):
    """Times ahead of, at, between and behind the marks."""
    marks = sorted(set(marks) | {Fraction(0)})
    between = [(one + other) / 2 for one, other in zip(marks, marks[1:])]
    return sorted(marks + between + [marks[0] - 1, marks[-1] + 1])


def all_times(lines):
    """Times at all meetings of the lines, between them, ahead and behind."""
    return times_about(exact_meetings(lines))


def little_later(lines, time):
    """A later time, with no meeting of the lines from behind the time up to it."""
    later = [mark for mark in exact_meetings(lines) if mark > time]
    return (time + later[0]) / 2 if later else time + 1


def little_earlier(lines, time):
    """An earlier time, with no meeting of the lines from it up to ahead of the time."""
    earlier = [mark for mark in exact_meetings(lines) if mark < time]
    return (time + earlier[-1]) / 2 if earlier else time - 1


def order_by_places(lines, time):
    return sorted(range(len(lines)), key=lambda one: (-exact_place(lines[one], time), one))


def exact_order(lines, time):
    """The order from a time on."""
    return order_by_places(lines, little_later(lines, time))


def exact_order_before(lines, time):
    """The order shortly before a time."""
    return order_by_places(lines, little_earlier(lines, time))


def ahead_shortly_after(lines, one, other, time):
    """Who is ahead from a time on, by the places a little later, not by the slopes."""
    later = little_later([lines[one], lines[other]], time)
    one_place = exact_place(lines[one], later)
    other_place = exact_place(lines[other], later)
    return one_place > other_place or (one_place == other_place and one < other)


def drawn_value(draw, size):
    """A number that is often small, so that lines meet at one place and are alike at times."""
    if size == "small":
        return Fraction(draw.randint(-3, 3))
    if size == "fractions":
        return Fraction(draw.randint(-20, 20), draw.randint(1, 12))
    return Fraction(draw.randint(-SIXTY, SIXTY), draw.randint(1, SIXTY))


def drawn_lines(seed, many, size):
    draw = random.Random(f"{seed} {many} {size}")
    return [line(drawn_value(draw, size), drawn_value(draw, size)) for turn in range(many)]


def told_sets():
    """Lists of lines with something of their own, by names."""
    fan = [line(-slope * Fraction(3, 2), slope) for slope in (0, 2, -1, HALF, 2, -3)]
    hull = [line(-slope * slope, 2 * slope) for slope in (3, -2, 0, 1, -1, 2, -4, 4, -3, 5)]
    mixed = [line(0, 0), line(0, 0), line(2, 0), line(0, 1), line(2, -1), line(1, 0),
             line(HALF, HALF), line(0, 1), line(-SIXTY, Fraction(SIXTY, 7)), line(-HALF, -2)]
    return {
        "none": [],
        "one": [line(5, -2)],
        "two": [line(0, 1), line(3, -1)],
        "two alike": [line(1, HALF), line(1, HALF)],
        "four alike": [line(1, HALF)] * 4,
        "one slope": [line(start, 2) for start in (3, -1, 7, 7, 0)],
        "fan": fan,
        "two fans": fan[:4] + [line(7 - slope * 4, slope) for slope in (1, -1, 0, 3, -2)],
        "hull": hull,
        "alike below": [line(0, 0), line(-1, 1), line(-1, -1), line(-5, 0), line(-5, 0)],
        "mixed": mixed,
        "fractions": [line(Fraction(1, 3), Fraction(-2, 7)), line(Fraction(-5, 11), Fraction(1, 9)),
                      line(HALF, Fraction(-1, 13)), line(Fraction(22, 7), -5), line(-4, 3)],
    }


def drawn_sets():
    told = {}
    for size, seeds in (("small", 12), ("fractions", 6), ("sixty", 2)):
        for seed in range(seeds):
            many = 10 if size == "sixty" else 2 + (seed * 5 + 3) % 9
            told[f"{size} {seed}"] = drawn_lines(seed, many, size)
    return told


def line_sets():
    return {**told_sets(), **drawn_sets()}


def shifted(lines, time, place):
    """The lines that are at each time so much later, and so much farther on."""
    return [line(exact_place(told, -time) + place, fraction(told[1])) for told in lines]


def tilted(lines, slope):
    return [(told[0], number(fraction(told[1]) + slope)) for told in lines]


def turned_about(lines):
    return [line(-fraction(told[0]), -fraction(told[1])) for told in lines]


def mirrored(lines):
    return [line(fraction(told[0]), -fraction(told[1])) for told in lines]
