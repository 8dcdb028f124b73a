import unittest
from fractions import Fraction

from asking import ask, fraction, line, number, spoil
from exact import (
    HALF, SIXTY, all_times, exact_order, line_sets, mirrored, shifted, tilted, turned_about)
from leadtimes.leaders import leader_by, leaders
from leadtimes.numbers import is_number
from leadtimes.orders import order_at
from leadtimes.ranks import rank_row

SETS = line_sets()


class Rows(unittest.TestCase):
    def check_form(self, row):
        self.assertIs(type(row), list)
        self.assertEqual([type(stretch) for stretch in row], [tuple] * len(row))
        self.assertIsNone(row[0][1])
        self.assertEqual([is_number(since) for runner, since in row[1:]], [True] * (len(row) - 1))
        sinces = [fraction(since) for runner, since in row[1:]]
        self.assertEqual(sinces, sorted(set(sinces)))
        for one, other in zip(row, row[1:]):
            self.assertNotEqual(one[0], other[0])

    def test_form_of_each_rank(self):
        for name, lines in SETS.items():
            for k in range(len(lines)):
                with self.subTest(name, k=k):
                    self.check_form(ask(self, rank_row, lines, k))

    def test_the_place_in_the_order_at_all_times(self):
        for name, lines in SETS.items():
            rows = [rank_row(lines, k) for k in range(len(lines))]
            for time in all_times(lines):
                told = [leader_by(row, number(time)) for row in rows]
                self.assertEqual(told, exact_order(lines, time), name)
                self.assertEqual(told, order_at(lines, number(time)), name)

    def test_rank_0_is_the_row_of_leaders(self):
        for name, lines in SETS.items():
            self.assertEqual(rank_row(lines, 0), leaders(lines), name)

    def test_a_rank_that_nobody_has(self):
        for lines in SETS.values():
            for k in (len(lines), len(lines) + 1, 100, SIXTY):
                self.assertEqual(ask(self, rank_row, lines, k), [])

    def test_told_ones(self):
        lines = [line(0, 1), line(1, 0), line(0, -1)]
        self.assertEqual(rank_row(lines, 0), [(2, None), (1, (-1, 1)), (0, (1, 1))])
        self.assertEqual(rank_row(lines, 1), [(1, None), (2, (-1, 1)), (0, (0, 1)), (1, (1, 1))])
        self.assertEqual(rank_row(lines, 2), [(0, None), (2, (0, 1))])
        self.assertEqual(rank_row([line(0, 0)] * 3, 2), [(2, None)])
        self.assertEqual(rank_row([line(0, 0), line(5, 0)], 1), [(0, None)])
        # All meet at once: the middle one stays where it is.
        fan = [line(0, 1), line(0, 0), line(0, -1)]
        self.assertEqual(rank_row(fan, 1), [(1, None)])

    def test_a_runner_more_than_once(self):
        row = rank_row([line(0, 1), line(1, 0), line(0, -1)], 1)
        runners = [runner for runner, since in row]
        self.assertEqual(runners.count(1), 2)

    def test_arguments_have_their_names(self):
        self.assertEqual(rank_row(k=1, lines=[line(0, 0)] * 2), [(1, None)])


class Likewise(unittest.TestCase):
    def test_shifted_and_tilted(self):
        for lines in SETS.values():
            for k in range(len(lines)):
                row = rank_row(lines, k)
                later = [(runner, since and number(fraction(since) + HALF))
                         for runner, since in row]
                self.assertEqual(rank_row(shifted(lines, HALF, Fraction(-1, 3)), k), later)
                self.assertEqual(rank_row(tilted(lines, Fraction(9, 5)), k), row)

    def test_mirrored(self):
        for lines in SETS.values():
            for k in range(len(lines)):
                row = rank_row(lines, k)
                sinces = [None] + [number(-fraction(since)) for runner, since in row[:0:-1]]
                back = list(zip([runner for runner, since in row[::-1]], sinces))
                self.assertEqual(rank_row(mirrored(lines), k), back)

    def test_turned_about(self):
        for lines in SETS.values():
            last = len(lines) - 1
            for k in range(len(lines)):
                about = rank_row(turned_about(lines)[::-1], last - k)
                self.assertEqual([(last - runner, since) for runner, since in about],
                                 rank_row(lines, k))


class Kept(unittest.TestCase):
    def test_what_is_done_later_changes_nothing_told(self):
        lines = list(SETS["hull"])
        row = rank_row(lines, 4)
        kept = list(row)
        spoil(rank_row(lines, 4))
        spoil(lines)
        self.assertEqual(row, kept)


if __name__ == "__main__":
    unittest.main()
