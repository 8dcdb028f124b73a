import itertools
import unittest
from fractions import Fraction

from asking import ask, fraction, line, number
from exact import ahead_shortly_after, exact_meetings, exact_place, times_about
from leadtimes.lines import is_ahead, line_through, meeting, next_change, place_at
from leadtimes.numbers import is_number

SIXTY = 10 ** 60 - 1
HALF = Fraction(1, 2)
BIG = Fraction(SIXTY, 10 ** 59 + 7)
VALUES = (0, 1, -1, HALF, -HALF, Fraction(7, 3), Fraction(-22, 7), 5, BIG, -SIXTY)
TIMES = (-SIXTY, -3, -1, Fraction(-5, 4), 0, Fraction(1, 3), HALF, 1, 2, Fraction(9, 2), BIG)
LINES = [line(start, slope) for start in VALUES for slope in VALUES]
# Alike ones, one slope, one start, several through one place at one time.
RUNNERS = [line(0, 0), line(0, 0), line(2, 0), line(0, 1), line(2, -1), line(1, 0),
           line(Fraction(1, 2), HALF), line(0, 1), line(-SIXTY, BIG), line(Fraction(-1, 3), -2)]
PAIRS = list(itertools.permutations(range(len(RUNNERS)), 2))


class Places(unittest.TestCase):
    def test_start_and_slope_times_the_time(self):
        for told in LINES:
            for time in TIMES:
                place = ask(self, place_at, told, number(time))
                self.assertEqual(place, number(exact_place(told, time)))
                self.assertIs(is_number(place), True)

    def test_told_ones(self):
        self.assertEqual(place_at(line(3, -2), (0, 1)), (3, 1))
        self.assertEqual(place_at(line(3, -2), (-1, 1)), (5, 1))
        self.assertEqual(place_at(line(3, -2), (3, 2)), (0, 1))
        self.assertEqual(place_at(line(HALF, Fraction(1, 3)), (3, 4)), (3, 4))

    def test_arguments_have_their_names(self):
        self.assertEqual(place_at(time=(2, 1), line=line(1, 3)), (7, 1))


class Through(unittest.TestCase):
    def check_form(self, told):
        self.assertIs(type(told), tuple)
        self.assertEqual([is_number(part) for part in told], [True, True])

    def test_it_has_the_slope_and_the_place_then(self):
        for time, place, slope in itertools.product(TIMES, VALUES, VALUES):
            told = ask(self, line_through, number(time), number(place), number(slope))
            self.check_form(told)
            self.assertEqual(told[1], number(slope))
            self.assertEqual(exact_place(told, time), place)
            self.assertEqual(place_at(told, number(time)), number(place))

    def test_of_a_lines_own_place_it_is_that_line(self):
        for told in LINES:
            for time in TIMES:
                place = place_at(told, number(time))
                self.assertEqual(line_through(number(time), place, told[1]), told)

    def test_told_ones(self):
        self.assertEqual(line_through((2, 1), (7, 1), (3, 1)), line(1, 3))
        self.assertEqual(line_through((0, 1), (7, 1), (3, 1)), line(7, 3))
        self.assertEqual(line_through((1, 2), (1, 2), (1, 3)), line(Fraction(1, 3), Fraction(1, 3)))

    def test_arguments_have_their_names(self):
        self.assertEqual(line_through(slope=(3, 1), place=(7, 1), time=(2, 1)), line(1, 3))


class Meetings(unittest.TestCase):
    def check(self, one, other):
        told = ask(self, meeting, one, other)
        self.assertIs(type(told), tuple)
        self.assertEqual(ask(self, meeting, other, one), told)
        if one == other:
            self.assertEqual(told, ("always",))
        elif one[1] == other[1]:
            self.assertEqual(told, ("never",))
        else:
            self.assertEqual((len(told), told[0], is_number(told[1])), (2, "at", True))
            time = fraction(told[1])
            self.assertEqual(exact_place(one, time), exact_place(other, time))
            self.assertEqual(place_at(one, told[1]), place_at(other, told[1]))

    def test_of_any_two_lines(self):
        for one in LINES:
            for other in LINES[::3] + [one, (one[0], (1, 3)), ((1, 3), one[1])]:
                self.check(one, other)

    def test_told_ones(self):
        self.assertEqual(meeting(line(0, 1), line(0, 1)), ("always",))
        self.assertEqual(meeting(line(0, 1), line(1, 1)), ("never",))
        self.assertEqual(meeting(line(0, 1), line(0, 2)), ("at", (0, 1)))
        self.assertEqual(meeting(line(0, 1), line(3, -1)), ("at", (3, 2)))
        self.assertEqual(meeting(line(0, -1), line(3, 1)), ("at", (-3, 2)))
        self.assertEqual(meeting(line(2, 0), line(0, 6)), ("at", (1, 3)))

    def test_of_what_was_told(self):
        one = line_through(number(BIG), number(-SIXTY), number(HALF))
        other = line_through(number(BIG), number(-SIXTY), number(BIG))
        self.assertEqual(meeting(one, other), ("at", number(BIG)))
        time = meeting(one, line(1, -SIXTY))[1]
        place = place_at(one, time)
        self.assertEqual(meeting(line_through(time, place, (0, 1)), one), ("at", time))

    def test_arguments_have_their_names(self):
        self.assertEqual(meeting(other=line(0, 1), one=line(1, 1)), ("never",))


class Ahead(unittest.TestCase):
    def test_who_is_ahead_a_little_later_at_all_times(self):
        for one, other in PAIRS:
            for time in times_about(exact_meetings([RUNNERS[one], RUNNERS[other]])):
                told = ask(self, is_ahead, RUNNERS, one, other, number(time))
                self.assertIs(told, ahead_shortly_after(RUNNERS, one, other, time))

    def test_the_greater_place_whatever_the_slope_and_number(self):
        lines = [line(0, 5), line(10, -5)]
        self.assertIs(is_ahead(lines, 1, 0, (0, 1)), True)
        self.assertIs(is_ahead(lines, 0, 1, (0, 1)), False)
        self.assertIs(is_ahead(lines, 0, 1, (2, 1)), True)
        self.assertIs(is_ahead(lines, 1, 0, (99, 100)), True)
        self.assertIs(is_ahead(lines, 0, 1, (101, 100)), True)

    def test_at_one_place_the_greater_slope(self):
        lines = [line(10, -5), line(0, 5), line(5, 0)]
        for one, other in ((1, 0), (1, 2), (2, 0)):
            self.assertIs(is_ahead(lines, one, other, (1, 1)), True)
            self.assertIs(is_ahead(lines, other, one, (1, 1)), False)

    def test_slopes_below_0_and_of_unlike_bottoms(self):
        lines = [line(0, Fraction(-1, 2)), line(0, Fraction(-1, 3)), line(0, Fraction(2, 7))]
        for one, other in ((1, 0), (2, 0), (2, 1)):
            self.assertIs(is_ahead(lines, one, other, (0, 1)), True)
            self.assertIs(is_ahead(lines, other, one, (0, 1)), False)

    def test_of_one_line_the_lesser_number(self):
        lines = [line(1, HALF)] * 4
        for one, other in itertools.permutations(range(4), 2):
            for time in TIMES:
                self.assertIs(is_ahead(lines, one, other, number(time)), one < other)

    def test_of_any_two_just_one_is(self):
        for one, other in PAIRS:
            for time in times_about(exact_meetings(RUNNERS)):
                told = is_ahead(RUNNERS, one, other, number(time))
                self.assertIs(is_ahead(RUNNERS, other, one, number(time)), not told)

    def test_of_three_one_after_another(self):
        for time in times_about(exact_meetings(RUNNERS)):
            ahead = {pair: is_ahead(RUNNERS, pair[0], pair[1], number(time)) for pair in PAIRS}
            for one, other, third in itertools.permutations(range(len(RUNNERS)), 3):
                if ahead[one, other] and ahead[other, third]:
                    self.assertTrue(ahead[one, third], (one, other, third, time))

    def test_arguments_have_their_names(self):
        lines = [line(0, 0), line(1, 0)]
        self.assertIs(is_ahead(time=(0, 1), other=0, one=1, lines=lines), True)


class Changes(unittest.TestCase):
    def check(self, lines, one, other, time):
        told = ask(self, next_change, lines, one, other, number(time))
        marks = exact_meetings([lines[one], lines[other]])
        now = ahead_shortly_after(lines, one, other, time)
        if told is not None:
            self.assertIs(is_number(told), True)
            self.assertGreater(fraction(told), time)
            self.assertIs(is_ahead(lines, one, other, told), not now)
            marks = marks + [fraction(told), (fraction(told) + time) / 2]
        for later in times_about(marks + [time]):
            if later > time:
                changed = told is not None and later >= fraction(told)
                self.assertIs(ahead_shortly_after(lines, one, other, later), now != changed)

    def test_ahead_of_at_and_behind_the_meeting(self):
        for one, other in PAIRS:
            for time in times_about(exact_meetings([RUNNERS[one], RUNNERS[other]])):
                self.check(RUNNERS, one, other, time)

    def test_both_ways_round_alike(self):
        for one, other in PAIRS:
            for time in TIMES:
                self.assertEqual(next_change(RUNNERS, one, other, number(time)),
                                 next_change(RUNNERS, other, one, number(time)))

    def test_told_ones(self):
        lines = [line(0, 1), line(3, -1), line(1, 1), line(0, 1)]
        for one, other in ((0, 1), (1, 0)):
            self.assertEqual(next_change(lines, one, other, (0, 1)), (3, 2))
            self.assertEqual(next_change(lines, one, other, (-9, 1)), (3, 2))
            self.assertEqual(next_change(lines, one, other, (149, 100)), (3, 2))
            self.assertIsNone(next_change(lines, one, other, (3, 2)))
            self.assertIsNone(next_change(lines, one, other, (151, 100)))
            self.assertIsNone(next_change(lines, one, other, (2, 1)))

    def test_of_one_slope_and_of_one_line_nothing_changes(self):
        lines = [line(0, 1), line(3, -1), line(1, 1), line(0, 1)]
        for one, other in itertools.permutations((0, 2, 3), 2):
            for time in TIMES:
                self.assertIsNone(ask(self, next_change, lines, one, other, number(time)))

    def test_a_meeting_below_0(self):
        lines = [line(0, 1), line(1, 3)]
        self.assertEqual(next_change(lines, 0, 1, (-1, 1)), (-1, 2))
        self.assertIsNone(next_change(lines, 0, 1, (-1, 2)))
        self.assertIsNone(next_change(lines, 0, 1, (0, 1)))

    def test_arguments_have_their_names(self):
        lines = [line(0, 0), line(1, -1)]
        self.assertEqual(next_change(time=(0, 1), other=0, one=1, lines=lines), (1, 1))


class Kept(unittest.TestCase):
    def test_what_is_done_to_the_list_later_is_all_that_counts_later(self):
        lines = [line(0, 1), line(3, -1)]
        self.assertIs(is_ahead(lines, 1, 0, (0, 1)), True)
        self.assertEqual(next_change(lines, 1, 0, (0, 1)), (3, 2))
        lines[1] = line(-1, 1)
        self.assertIs(is_ahead(lines, 1, 0, (0, 1)), False)
        self.assertIsNone(next_change(lines, 1, 0, (0, 1)))
        lines[1] = line(3, -1)
        self.assertIs(is_ahead(lines, 1, 0, (0, 1)), True)
        self.assertEqual(next_change(lines, 1, 0, (0, 1)), (3, 2))


if __name__ == "__main__":
    unittest.main()
