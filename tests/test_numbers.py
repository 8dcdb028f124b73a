import math
import unittest
from fractions import Fraction

from asking import ask, fraction, number, refused
from leadtimes.errors import LeadError, NoNumber
from leadtimes.numbers import (
    difference_of, is_less, is_number, number_of, product_of, quotient_of, sum_of)

SIXTY = 10 ** 60 - 1
ODD_SIXTY = 123456789012345678901234567890123456789012345678901234567891
WHOLES = (0, 1, -1, 2, -2, 3, -3, 4, 6, -6, 9, 12, -35, 100, -1024, 10 ** 9,
          SIXTY, -SIXTY, SIXTY - 1, ODD_SIXTY, -ODD_SIXTY, 10 ** 59, -2 ** 190)
NUMBERS = sorted({number(top, bottom) for top in WHOLES for bottom in
                  (1, 2, 3, 12, 35, 10 ** 9, SIXTY, ODD_SIXTY, 2 ** 190)}, key=fraction)
FEW = NUMBERS[::4] + [(0, 1), (1, 1), (-1, 1), (1, 2), (-1, 2), (1, 3)]


class Odd:
    """A thing that is like nothing else, and says nothing of itself."""


def no_wholes():
    return [True, False, None, "", "1", "a", (), (1,), (1, 2), [], [1], [1, 2], {}, {1: 2},
            1.0, 0.5, float("nan"), float("inf"), 1j, b"1", Fraction(1, 2), {1}, frozenset(),
            range(2), len, int, Odd, Odd()]


class Making(unittest.TestCase):
    def check(self, top, bottom):
        told = ask(self, number_of, top, bottom)
        self.assertIs(type(told), tuple)
        self.assertEqual([type(part) for part in told], [int, int])
        self.assertGreaterEqual(told[1], 1)
        self.assertEqual(math.gcd(told[0], told[1]), 1)
        self.assertEqual(told[0] * bottom, top * told[1])

    def test_of_any_two_whole_numbers(self):
        for top in WHOLES:
            for bottom in WHOLES:
                if bottom != 0:
                    self.check(top, bottom)

    def test_of_all_small_ones(self):
        for top in range(-30, 31):
            for bottom in list(range(-30, 0)) + list(range(1, 31)):
                self.check(top, bottom)

    def test_told_ones(self):
        for top, bottom, told in (
                (0, 1, (0, 1)), (0, -7, (0, 1)), (0, SIXTY, (0, 1)), (6, 4, (3, 2)),
                (-6, 4, (-3, 2)), (6, -4, (-3, 2)), (-6, -4, (3, 2)), (7, 1, (7, 1)),
                (7, -1, (-7, 1)), (5, 5, (1, 1)), (-5, 5, (-1, 1)), (1, -SIXTY, (-1, SIXTY)),
                (SIXTY, 9, (SIXTY // 9, 1)), (SIXTY, SIXTY, (1, 1)),
                (2 * 10 ** 59, 4 * 10 ** 59, (1, 2)), (3, SIXTY, (1, SIXTY // 3))):
            self.assertEqual(ask(self, number_of, top, bottom), told)

    def test_arguments_have_their_names(self):
        self.assertEqual(number_of(bottom=4, top=6), (3, 2))

    def test_a_bottom_of_0_is_refused(self):
        for top in WHOLES:
            refused(self, NoNumber, number_of, top, 0)

    def test_what_is_no_whole_number_is_refused(self):
        for thing in no_wholes():
            for whole in (0, 1, -2, SIXTY):
                refused_as_it_is(self, thing, whole)
                refused_as_it_is(self, whole, thing)
            for other in no_wholes():
                refused_as_it_is(self, thing, other)

    def test_the_refusal_is_a_lead_error(self):
        for top, bottom in ((1, 0), (True, 1), (1, True), (1, False), (None, None)):
            with self.assertRaises(LeadError):
                number_of(top, bottom)


def refused_as_it_is(case, top, bottom):
    """As refused, but without copies: some of these things aren't equal to their copies."""
    with case.assertRaises(ValueError) as caught:
        number_of(top, bottom)
    case.assertIs(type(caught.exception), NoNumber)


class Asking(unittest.TestCase):
    def test_numbers_are_numbers(self):
        for told in NUMBERS:
            self.assertIs(ask(self, is_number, told), True)
        for top in range(-20, 21):
            for bottom in range(-20, 21):
                right = bottom >= 1 and math.gcd(top, bottom) == 1
                self.assertIs(ask(self, is_number, (top, bottom)), right)

    def test_tuples_that_are_none(self):
        for thing in ((0, 2), (0, -1), (0, 0), (1, 0), (2, 4), (-2, 4), (1, -2), (-1, -1),
                      (SIXTY, 3), (SIXTY, SIXTY), (1, -SIXTY), (0, SIXTY),
                      (), (1,), (1, 2, 3), (1, 1, 1), (0, 1, 0, 1),
                      (True, 1), (1, True), (False, 1), (True, True), (True, 2), (0, True),
                      ((0, 1), (1, 1)), ((1, 1), 1), (1, (1, 1)), ([1], 1)):
            self.assertIs(ask(self, is_number, thing), False)

    def test_things_of_other_kinds(self):
        for thing in no_wholes() + [0, 1, -1, SIXTY, "12", [0, 1], [3, 2], {0: 1, 1: 1}]:
            if thing != (1, 2):
                self.assertIs(is_number(thing), False)

    def test_tuples_with_things_of_other_kinds(self):
        for thing in no_wholes():
            for tuple_of_it in ((thing, 1), (1, thing), (thing, 0), (0, thing), (thing, thing)):
                self.assertIs(is_number(tuple_of_it), False)

    def test_arguments_have_their_names(self):
        self.assertIs(is_number(thing=(3, 2)), True)


class Reckoning(unittest.TestCase):
    def check(self, function, a, b, exact):
        told = ask(self, function, a, b)
        self.assertEqual(told, number(exact))
        self.assertIs(is_number(told), True)
        return told

    def check_all(self, a, b):
        one = fraction(a)
        other = fraction(b)
        self.check(sum_of, a, b, one + other)
        self.check(difference_of, a, b, one - other)
        self.check(product_of, a, b, one * other)
        self.assertIs(ask(self, is_less, a, b), one < other)
        if other == 0:
            refused(self, NoNumber, quotient_of, a, b)
        else:
            self.check(quotient_of, a, b, one / other)

    def test_the_same_reckoned_by_fractions(self):
        for a in FEW:
            for b in FEW:
                self.check_all(a, b)

    def test_small_ones(self):
        small = sorted({number(top, bottom) for top in range(-4, 5) for bottom in range(1, 5)})
        for a in small:
            for b in small:
                self.check_all(a, b)

    def test_told_ones(self):
        self.assertEqual(sum_of((1, 2), (1, 2)), (1, 1))
        self.assertEqual(sum_of((1, 2), (-1, 2)), (0, 1))
        self.assertEqual(difference_of((1, 2), (2, 3)), (-1, 6))
        self.assertEqual(product_of((2, 3), (3, 2)), (1, 1))
        self.assertEqual(product_of((-2, 3), (0, 1)), (0, 1))
        self.assertEqual(quotient_of((1, 2), (-3, 4)), (-2, 3))
        self.assertEqual(quotient_of((0, 1), (-3, 4)), (0, 1))
        self.assertIs(is_less((-1, 2), (-1, 3)), True)
        self.assertIs(is_less((-1, 3), (-1, 2)), False)
        self.assertIs(is_less((2, 3), (2, 3)), False)

    def test_each_is_less_than_the_later_ones_alone(self):
        for at, a in enumerate(NUMBERS):
            for later, b in enumerate(NUMBERS):
                self.assertIs(is_less(a, b), at < later)

    def test_what_was_told_handed_in_again(self):
        self.check_again((ODD_SIXTY, SIXTY), (-SIXTY + 1, ODD_SIXTY), 6)

    def check_again(self, a, b, turns):
        for turn in range(turns):
            total = self.check(sum_of, a, b, fraction(a) + fraction(b))
            product = self.check(product_of, total, b, fraction(total) * fraction(b))
            ratio = self.check(quotient_of, product, a, fraction(product) / fraction(a))
            rest = self.check(difference_of, ratio, total, fraction(ratio) - fraction(total))
            self.assertIs(ask(self, is_less, rest, total), fraction(rest) < fraction(total))
            self.assertEqual(number_of(rest[0], rest[1]), rest)
            a = total
            b = rest
        # The parts have grown far beyond sixty figures by now.
        self.assertGreater(abs(b[0]), 10 ** 200)

    def test_numbers_of_nearly_four_thousand_figures(self):
        long = (10 ** 3900 + 7, 3 ** 4000)
        self.assertIs(is_number(long), True)
        self.assertEqual(quotient_of(product_of(long, (6, 7)), (6, 7)), long)
        self.assertEqual(difference_of(sum_of(long, (1, 2)), long), (1, 2))
        self.assertIs(is_less(long, sum_of(long, (1, SIXTY))), True)

    def test_a_quotient_by_0_is_refused(self):
        for a in NUMBERS:
            refused(self, NoNumber, quotient_of, a, (0, 1))

    def test_arguments_have_their_names(self):
        self.assertEqual(sum_of(b=(1, 2), a=(2, 1)), (5, 2))
        self.assertEqual(difference_of(b=(1, 2), a=(2, 1)), (3, 2))
        self.assertEqual(product_of(b=(1, 2), a=(3, 1)), (3, 2))
        self.assertEqual(quotient_of(b=(1, 2), a=(2, 1)), (4, 1))
        self.assertIs(is_less(b=(1, 2), a=(2, 1)), False)


if __name__ == "__main__":
    unittest.main()
