import itertools
import unittest

from asking import ask, line, number
from exact import (
    HALF, SIXTY, ahead_shortly_after, all_times, line_sets, mirrored, shifted, tilted,
    times_about, exact_meetings)
from leadtimes.covers import cover, is_cover
from leadtimes.leaders import leaders
from leadtimes.lines import is_ahead

SETS = line_sets()
SMALL = {name: lines for name, lines in SETS.items() if len(lines) <= 6}


def is_ahead_at_each_time(lines, runner, one, other):
    times = times_about(exact_meetings([lines[runner], lines[one], lines[other]]))
    return all(ahead_shortly_after(lines, one, runner, time)
               or ahead_shortly_after(lines, other, runner, time) for time in times)


def is_exact_cover(lines, runner, one, other):
    if not 0 <= one < len(lines) or not 0 <= other < len(lines) or runner in (one, other):
        return False
    return is_ahead_at_each_time(lines, runner, one, other)


class Covers(unittest.TestCase):
    def check(self, lines, runner, in_row):
        told = ask(self, cover, lines, runner)
        if in_row:
            self.assertIsNone(told)
            return
        self.assertEqual((type(told), [type(part) for part in told]), (tuple, [int, int]))
        self.assertNotIn(runner, told)
        for time in all_times(lines):
            ahead = [is_ahead(lines, one, runner, number(time)) for one in told]
            self.assertIn(True, ahead)
        self.assertTrue(is_exact_cover(lines, runner, told[0], told[1]))
        self.assertIs(is_cover(lines, runner, told[0], told[1]), True)

    def test_each_runner_of_all_sets(self):
        for name, lines in SETS.items():
            row = [runner for runner, since in leaders(lines)]
            for runner in range(len(lines)):
                with self.subTest(name, runner=runner):
                    self.check(lines, runner, runner in row)

    def test_told_ones(self):
        self.assertIsNone(cover([line(3, 4)], 0))
        self.assertEqual(cover([line(0, 0), line(0, 0)], 1), (0, 0))
        self.assertIsNone(cover([line(0, 0), line(0, 0)], 0))
        self.assertEqual(cover([line(0, 1), line(2, 1)], 0), (1, 1))
        self.assertIn(cover([line(0, 1), line(-1, 0), line(0, -1)], 1), [(0, 2), (2, 0)])
        # Three that meet at one time: the one in the middle leads at no time.
        self.assertIn(cover([line(0, 1), line(0, 0), line(0, -1)], 1), [(0, 2), (2, 0)])

    def test_a_stretch_without_cover_as_short_as_can_be(self):
        lines = [line(0, 1), line(0, -1), ((1, SIXTY), (0, 1))]
        self.assertIsNone(cover(lines, 2))
        self.assertIs(is_cover(lines, 2, 0, 1), False)
        lines[2] = ((-1, SIXTY), (0, 1))
        self.assertIn(cover(lines, 2), [(0, 1), (1, 0)])

    def test_arguments_have_their_names(self):
        self.assertEqual(cover(runner=1, lines=[line(0, 0), line(0, 0)]), (0, 0))


class LetBy(unittest.TestCase):
    def test_all_twos_about_the_runners(self):
        for name, lines in SMALL.items():
            numbers = range(-2, len(lines) + 2)
            for runner, one, other in itertools.product(range(len(lines)), numbers, numbers):
                told = ask(self, is_cover, lines, runner, one, other)
                self.assertIs(told, is_exact_cover(lines, runner, one, other), name)

    def test_all_twos_of_ten_runners(self):
        for name in ("mixed", "two fans"):
            lines = SETS[name]
            runners = range(len(lines))
            for runner, one, other in itertools.product(runners, runners, runners):
                told = is_cover(lines, runner, one, other)
                self.assertIs(told, is_exact_cover(lines, runner, one, other), name)

    def test_the_other_way_round(self):
        for lines in SETS.values():
            numbers = range(-1, len(lines) + 1)
            for runner in range(len(lines)):
                for one, other in itertools.combinations(numbers, 2):
                    self.assertIs(is_cover(lines, runner, one, other),
                                  is_cover(lines, runner, other, one))

    def test_no_two_cover_a_runner_of_the_row(self):
        for lines in SETS.values():
            numbers = range(-1, len(lines) + 1)
            for runner, since in leaders(lines):
                for one, other in itertools.product(numbers, numbers):
                    self.assertIs(is_cover(lines, runner, one, other), False)

    def test_numbers_that_tell_no_other_runner(self):
        lines = [line(0, 0), line(1, 0), line(1, 0)]
        self.assertIs(is_cover(lines, 0, 1, 1), True)
        self.assertIs(is_cover(lines, 0, 1, 2), True)
        for one in (0, -1, -2, -3, 3, SIXTY, -SIXTY):
            self.assertIs(ask(self, is_cover, lines, 0, 1, one), False)
            self.assertIs(ask(self, is_cover, lines, 0, one, 1), False)
            self.assertIs(ask(self, is_cover, lines, 0, one, one), False)

    def test_one_alone(self):
        lines = [line(0, 1), line(0, 1), line(-1, 1), line(5, 0)]
        for runner, one, told in ((1, 0, True), (0, 1, False), (2, 0, True), (2, 1, True),
                                  (0, 2, False), (0, 3, False), (3, 0, False)):
            self.assertIs(ask(self, is_cover, lines, runner, one, one), told)

    def test_at_the_meeting_the_steeper_one_is_ahead(self):
        # 1 is ahead of 0 before their meeting alone, 2 from its own on.
        for start, told in ((0, True), (-HALF, False), (HALF, True)):
            lines = [line(0, 0), line(0, -1), line(start, 1)]
            self.assertIs(is_cover(lines, 0, 1, 2), told)
            self.assertIs(is_cover(lines, 0, 2, 1), told)

    def test_arguments_have_their_names(self):
        lines = [line(0, 0), line(0, 0)]
        self.assertIs(is_cover(other=0, one=0, runner=1, lines=lines), True)


class Likewise(unittest.TestCase):
    """Seen otherwise, the same two cover the same runner."""

    def check(self, lines, others):
        for runner in range(len(lines)):
            told = cover(lines, runner)
            for other in others:
                self.assertIs(cover(other, runner) is None, told is None)
                if told is not None:
                    self.assertIs(is_cover(other, runner, told[0], told[1]), True)

    def test_shifted_tilted_and_mirrored(self):
        for lines in SETS.values():
            self.check(lines, [shifted(lines, -HALF, 3), tilted(lines, 2), mirrored(lines)])


if __name__ == "__main__":
    unittest.main()
