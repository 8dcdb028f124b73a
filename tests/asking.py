"""What the tests share: asking so that promise 2 is held each time, and numbers as fractions."""

import copy
from fractions import Fraction


def kind(thing):
    """A thing's kinds, all through: 1 and True are equal to Python, their kinds are not."""
    if isinstance(thing, (tuple, list)):
        return (type(thing), [kind(part) for part in thing])
    return type(thing)


def spoil(thing):
    """Changes every list in a thing, as one may who was told it or has handed it in."""
    if isinstance(thing, (tuple, list)):
        for part in thing:
            spoil(part)
    if isinstance(thing, list):
        thing.append("spoilt")
        thing.reverse()


def ask(case, function, *things):
    """What the function tells, with promise 2 held.

    Nothing handed in is changed; asked again the same is told, also when what was told first, and
    what was handed in with it, was changed in between.
    """
    kept = copy.deepcopy(things)
    first = function(*things)
    told = copy.deepcopy(first)
    spoil(first)
    handed = copy.deepcopy(kept)
    second = function(*handed)
    spoil(handed)
    third = function(*things)
    case.assertEqual(things, kept)
    case.assertEqual(kind(things), kind(kept))
    for again in (second, third):
        case.assertEqual(told, again)
        case.assertEqual(kind(told), kind(again))
    return told


def refused(case, error, function, *things):
    """Holds that the function refuses with just this class, twice, and changes nothing."""
    kept = copy.deepcopy(things)
    for turn in range(2):
        with case.assertRaises(ValueError) as caught:
            function(*things)
        case.assertIs(type(caught.exception), error)
    case.assertEqual(things, kept)


def fraction(number):
    return Fraction(number[0], number[1])


def number(value, bottom=1):
    """The number of a value, reckoned by Python's fractions."""
    exact = Fraction(value, bottom)
    return (exact.numerator, exact.denominator)


def line(start, slope):
    return (number(start), number(slope))
