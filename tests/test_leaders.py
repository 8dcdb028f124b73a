import itertools
import unittest
from fractions import Fraction

from asking import ask, fraction, line, number, spoil
from exact import (
    HALF, SIXTY, all_times, ahead_shortly_after, exact_meetings, exact_order, exact_place,
    line_sets, mirrored, shifted, tilted, times_about, told_sets, turned_about)
from leadtimes.leaders import front, is_row, leader_by, leaders
from leadtimes.lines import is_ahead
from leadtimes.numbers import is_number

SETS = line_sets()


def exact_row(lines):
    """The row, by asking for the first of the order at each meeting and ahead of all."""
    if not lines:
        return []
    marks = exact_meetings(lines)
    early = marks[0] - 1 if marks else Fraction(0)
    row = [(exact_order(lines, early)[0], None)]
    for mark in marks:
        leader = exact_order(lines, mark)[0]
        if leader != row[-1][0]:
            row.append((leader, number(mark)))
    return row


class Rows(unittest.TestCase):
    def check_form(self, lines, row):
        self.assertIs(type(row), list)
        for stretch in row:
            self.assertEqual((type(stretch), len(stretch), type(stretch[0])), (tuple, 2, int))
        sinces = [since for runner, since in row]
        self.assertEqual(sinces[:1], [None] * len(sinces[:1]))
        for since in sinces[1:]:
            self.assertIs(is_number(since), True)
        for one, other in zip(sinces[1:], sinces[2:]):
            self.assertLess(fraction(one), fraction(other))
        runners = [runner for runner, since in row]
        self.assertEqual(len(set(runners)), len(runners))
        slopes = [fraction(lines[runner][1]) for runner in runners]
        self.assertEqual(slopes, sorted(set(slopes)))

    def check_at(self, lines, leader, time):
        for other in range(len(lines)):
            if other != leader:
                self.assertTrue(ahead_shortly_after(lines, leader, other, time))
                self.assertIs(is_ahead(lines, leader, other, number(time)), True)

    def test_form_of_all_sets(self):
        for name, lines in SETS.items():
            with self.subTest(name):
                self.check_form(lines, ask(self, leaders, lines))

    def test_the_runner_told_is_ahead_of_all_others_at_all_times(self):
        for name, lines in SETS.items():
            row = leaders(lines)
            with self.subTest(name):
                for time in all_times(lines) if lines else []:
                    self.check_at(lines, leader_by(row, number(time)), time)

    def test_the_row_made_otherwise(self):
        for name, lines in SETS.items():
            with self.subTest(name):
                self.assertEqual(leaders(lines), exact_row(lines))

    def test_without_runners(self):
        self.assertEqual(ask(self, leaders, []), [])

    def test_told_ones(self):
        for lines, row in (
                ([line(5, -2)], [(0, None)]),
                ([line(1, 0), line(1, 0)], [(0, None)]),
                ([line(0, 0), line(1, 0), line(1, 0)], [(1, None)]),
                ([line(0, 1), line(3, -1)], [(1, None), (0, (3, 2))]),
                ([line(0, -1), line(3, 1)], [(0, None), (1, (-3, 2))]),
                ([line(0, 0), line(0, 1), line(0, -1)], [(2, None), (1, (0, 1))]),
                ([line(0, 1), line(0, 1), line(0, -1)], [(2, None), (0, (0, 1))]),
                ([line(0, 1), line(1, 0), line(0, -1)], [(2, None), (1, (-1, 1)), (0, (1, 1))]),
                ([line(0, Fraction(1, 3)), line(HALF, 0)], [(1, None), (0, (3, 2))])):
            self.assertEqual(ask(self, leaders, lines), row)

    def test_ten_lines_that_all_lead(self):
        row = leaders(SETS["hull"])
        self.assertEqual([runner for runner, since in row], [6, 8, 1, 4, 2, 3, 5, 0, 7, 9])
        self.assertEqual([since for runner, since in row][:3], [None, (-7, 2), (-5, 2)])

    def test_several_that_meet_at_one_time(self):
        self.assertEqual(leaders(SETS["fan"]), [(5, None), (1, (3, 2))])

    def test_numbers_of_many_figures(self):
        big = [line(-SIXTY, Fraction(1, SIXTY)), line(SIXTY, Fraction(-1, SIXTY - 1))]
        exact = Fraction(2 * SIXTY) / (Fraction(1, SIXTY) + Fraction(1, SIXTY - 1))
        self.assertEqual(leaders(big), [(1, None), (0, number(exact))])

    def test_arguments_have_their_names(self):
        self.assertEqual(leaders(lines=[line(0, 0)]), [(0, None)])


class Likewise(unittest.TestCase):
    """The same runners seen otherwise have the row seen otherwise."""

    def test_shifted(self):
        for name, lines in SETS.items():
            row = [(runner, since and number(fraction(since) + HALF))
                   for runner, since in leaders(lines)]
            self.assertEqual(leaders(shifted(lines, HALF, -7)), row, name)

    def test_tilted(self):
        for name, lines in SETS.items():
            self.assertEqual(leaders(tilted(lines, Fraction(-5, 3))), leaders(lines), name)

    def test_mirrored(self):
        for name, lines in SETS.items():
            row = leaders(lines)
            sinces = [since and number(-fraction(since)) for runner, since in row[1:]]
            runners = [runner for runner, since in reversed(row)]
            turned = list(zip(runners, [None] * len(row[:1]) + sinces[::-1]))
            self.assertEqual(leaders(mirrored(lines)), turned, name)

    def test_with_other_numbers(self):
        for name, lines in SETS.items():
            if len(set(lines)) == len(lines):
                last = len(lines) - 1
                row = [(last - runner, since) for runner, since in leaders(lines)]
                self.assertEqual(leaders(lines[::-1]), row, name)

    def test_turned_about_the_leader_is_the_last_one(self):
        for name, lines in SETS.items():
            last = len(lines) - 1
            row = leaders(turned_about(lines)[::-1])
            for time in all_times(lines) if lines else []:
                self.assertEqual(last - leader_by(row, number(time)), exact_order(lines, time)[-1])


class LetBy(unittest.TestCase):
    def test_the_row_itself(self):
        for name, lines in SETS.items():
            self.assertIs(ask(self, is_row, lines, leaders(lines)), True, name)

    def refuse(self, lines, rows):
        right = leaders(lines)
        for row in rows:
            if row != right:
                self.assertIs(ask(self, is_row, lines, row), False, row)

    def test_another_runner(self):
        for lines in SETS.values():
            row = leaders(lines)
            for at, runner in itertools.product(range(len(row)), range(-1, len(lines) + 2)):
                self.refuse(lines, [row[:at] + [(runner, row[at][1])] + row[at + 1:]])

    def test_another_since(self):
        for lines in SETS.values():
            row = leaders(lines)
            for at in range(len(row)):
                since = fraction(row[at][1] or (0, 1))
                for other in (None, number(since + 1), number(since - HALF), (SIXTY, 1)):
                    self.refuse(lines, [row[:at] + [(row[at][0], other)] + row[at + 1:]])

    def test_a_stretch_left_out_or_twice(self):
        for lines in SETS.values():
            row = leaders(lines)
            for at in range(len(row)):
                self.refuse(lines, [row[:at] + row[at + 1:], row[:at + 1] + row[at:]])

    def test_a_stretch_put_in(self):
        for lines in SETS.values():
            row = leaders(lines)
            for at in range(1, len(row) + 1):
                since = fraction(row[at - 1][1] or (-SIXTY, 1))
                for runner in range(len(lines) + 1):
                    self.refuse(lines, [row[:at] + [(runner, number(since + HALF))] + row[at:]])

    def test_two_exchanged(self):
        for lines in SETS.values():
            row = leaders(lines)
            for one, other in itertools.combinations(range(len(row)), 2):
                wrong = list(row)
                wrong[one], wrong[other] = row[other], row[one]
                runners = list(row)
                runners[one] = (row[other][0], row[one][1])
                runners[other] = (row[one][0], row[other][1])
                self.refuse(lines, [wrong, runners])

    def test_cut_short(self):
        for lines in SETS.values():
            row = leaders(lines)
            for cut in range(1, len(row) + 1):
                self.refuse(lines, [row[cut:], row[:-cut]])

    def test_no_row_and_runners_that_there_are_not(self):
        self.assertIs(is_row([], []), True)
        self.assertIs(is_row([], [(0, None)]), False)
        self.assertIs(is_row([line(0, 0)], []), False)
        self.assertIs(is_row([line(0, 0)], [(1, None)]), False)
        self.assertIs(is_row([line(0, 0)], [(-1, None)]), False)

    def test_an_alike_one(self):
        lines = [line(0, -1), line(0, 1), line(0, 1)]
        self.assertIs(is_row(lines, [(0, None), (1, (0, 1))]), True)
        self.assertIs(is_row(lines, [(0, None), (2, (0, 1))]), False)
        self.assertIs(is_row(lines, [(0, None), (1, (0, 1)), (2, (1, 1))]), False)

    def test_truths_are_no_runners(self):
        lines = [line(0, -1), line(0, 1)]
        self.assertIs(is_row(lines, [(0, None), (True, (0, 1))]), False)
        self.assertIs(is_row(lines, [(False, None), (1, (0, 1))]), False)
        self.assertIs(is_row(lines, [(0, None), (1, (0, True))]), False)

    def test_arguments_have_their_names(self):
        self.assertIs(is_row(row=[(0, None)], lines=[line(0, 0)]), True)


class Reading(unittest.TestCase):
    def check(self, row):
        marks = [fraction(since) for runner, since in row if since is not None]
        for time in times_about(marks):
            past = [runner for runner, since in row if since is None or fraction(since) <= time]
            self.assertEqual(ask(self, leader_by, row, number(time)), past[-1])

    def test_rows_that_were_told(self):
        for lines in SETS.values():
            if lines:
                self.check(leaders(lines))

    def test_rows_made_by_hand(self):
        self.check([(7, None)])
        self.check([(3, None), (3, (0, 1)), (0, (1, 2))])
        self.check([(-5, None), (SIXTY, (-1, 3)), (-5, (1, 3)), (4, (SIXTY, 1))])
        self.check([(at % 3, None if at == 0 else number(at, 2)) for at in range(60)])

    def test_at_a_since_ahead_of_it_and_behind_it(self):
        row = [(4, None), (2, (1, 1)), (9, (3, 2))]
        for time, runner in (((-SIXTY, 1), 4), ((0, 1), 4), ((99, 100), 4), ((1, 1), 2),
                             ((5, 4), 2), ((149, 100), 2), ((3, 2), 9), ((151, 100), 9)):
            self.assertEqual(leader_by(row, time), runner)

    def test_arguments_have_their_names(self):
        self.assertEqual(leader_by(time=(0, 1), row=[(3, None)]), 3)


class Fronts(unittest.TestCase):
    def test_who_has_the_greatest_place_at_all_times(self):
        for name, lines in SETS.items():
            for time in all_times(lines) if lines else []:
                places = [exact_place(told, time) for told in lines]
                exact = [at for at, place in enumerate(places) if place == max(places)]
                self.assertEqual(ask(self, front, lines, number(time)), exact, name)

    def test_two_at_least_at_each_since(self):
        for lines in SETS.values():
            row = leaders(lines)
            for (earlier, ahead), (later, since) in zip(row, row[1:]):
                told = front(lines, since)
                self.assertTrue({earlier, later} <= set(told))
                self.assertEqual(told, sorted(set(told)))

    def test_told_ones(self):
        fan = SETS["fan"]
        self.assertEqual(front(fan, (3, 2)), [0, 1, 2, 3, 4, 5])
        self.assertEqual(front(fan, (1, 1)), [5])
        self.assertEqual(front(fan, (2, 1)), [1, 4])
        self.assertEqual(front(SETS["four alike"], (9, 7)), [0, 1, 2, 3])
        self.assertEqual(front(SETS["one slope"], (9, 7)), [2, 3])
        self.assertEqual(front([], (9, 7)), [])

    def test_arguments_have_their_names(self):
        self.assertEqual(front(time=(0, 1), lines=[line(0, 0)]), [0])


class Kept(unittest.TestCase):
    def test_what_is_done_later_changes_nothing_told(self):
        for lines in told_sets().values():
            row = leaders(lines)
            told = front(lines, (0, 1))
            kept = (list(row), list(told))
            spoil(leaders(lines))
            spoil(front(lines, (0, 1)))
            spoil(lines)
            self.assertEqual((row, told), kept)


if __name__ == "__main__":
    unittest.main()
