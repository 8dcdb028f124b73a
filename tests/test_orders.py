import itertools
import unittest
from fractions import Fraction

from asking import ask, fraction, line, number, spoil
from exact import (
    HALF, SIXTY, all_times, exact_meetings, exact_order, exact_order_before, exact_place,
    line_sets, mirrored, shifted, tilted, turned_about)
from leadtimes.lines import is_ahead
from leadtimes.numbers import is_number
from leadtimes.orders import changes, nearest, order_at

SETS = line_sets()


class Orders(unittest.TestCase):
    def test_each_ahead_of_the_next_one_at_all_times(self):
        for name, lines in SETS.items():
            for time in all_times(lines):
                told = ask(self, order_at, lines, number(time))
                self.assertEqual(told, exact_order(lines, time), name)
                for one, other in zip(told, told[1:]):
                    self.assertIs(is_ahead(lines, one, other, number(time)), True)

    def test_told_ones(self):
        fan = SETS["fan"]
        self.assertEqual(order_at(fan, (3, 2)), [1, 4, 3, 0, 2, 5])
        self.assertEqual(order_at(fan, (1, 1)), [5, 2, 0, 3, 1, 4])
        self.assertEqual(order_at(SETS["four alike"], (1, 1)), [0, 1, 2, 3])
        self.assertEqual(order_at(SETS["one slope"], (1, 1)), [2, 3, 0, 4, 1])
        self.assertEqual(order_at([line(5, 1)], (SIXTY, 1)), [0])
        self.assertEqual(ask(self, order_at, [], (0, 1)), [])

    def test_arguments_have_their_names(self):
        self.assertEqual(order_at(time=(0, 1), lines=[line(0, 0), line(1, 0)]), [1, 0])


class Nearest(unittest.TestCase):
    def exact(self, lines, time):
        order = exact_order(lines, time)
        places = [exact_place(lines[runner], time) for runner in order]
        gaps = [one - other for one, other in zip(places, places[1:])]
        if not gaps:
            return None
        at = gaps.index(min(gaps))
        return (order[at], order[at + 1], number(gaps[at]))

    def test_the_first_of_the_least_apart_at_all_times(self):
        for name, lines in SETS.items():
            for time in all_times(lines):
                told = ask(self, nearest, lines, number(time))
                self.assertEqual(told, self.exact(lines, time), name)
                if told is not None:
                    self.assertIs(is_number(told[2]), True)

    def test_none_and_one_runner(self):
        self.assertIsNone(nearest([], (0, 1)))
        self.assertIsNone(nearest([line(3, 1)], (0, 1)))

    def test_told_ones(self):
        self.assertEqual(nearest([line(0, 1), line(3, -1)], (0, 1)), (1, 0, (3, 1)))
        self.assertEqual(nearest([line(0, 1), line(3, -1)], (3, 2)), (0, 1, (0, 1)))
        self.assertEqual(nearest([line(0, 1), line(0, 1)], (3, 2)), (0, 1, (0, 1)))
        # Several as near: the first from the front.
        self.assertEqual(nearest([line(0, 0), line(1, 0), line(2, 0)], (0, 1)), (2, 1, (1, 1)))
        self.assertEqual(nearest([line(0, 0), line(0, 0), line(5, 0), line(5, 0)], (0, 1)),
                         (2, 3, (0, 1)))
        self.assertEqual(nearest([line(0, 0), line(Fraction(1, 6), 0), line(Fraction(2, 3), 0)],
                                 (7, 1)), (1, 0, (1, 6)))
        self.assertEqual(nearest([line(Fraction(1, 6), 0), line(Fraction(2, 3), 0)], (7, 1)),
                         (1, 0, (1, 2)))

    def test_arguments_have_their_names(self):
        self.assertEqual(nearest(time=(0, 1), lines=[line(0, 0)] * 2), (0, 1, (0, 1)))


def exact_changes(lines, low, high):
    """The changes, by the orders shortly before each meeting and from it on."""
    told = []
    for time in exact_meetings(lines):
        if low < time <= high:
            before = exact_order_before(lines, time)
            after = exact_order(lines, time)
            pairs = [(one, other) for one, other in itertools.permutations(range(len(lines)), 2)
                     if before.index(one) < before.index(other)
                     and after.index(other) < after.index(one)]
            if pairs:
                told.append((number(time), sorted(pairs)))
    return told


class Changes(unittest.TestCase):
    def check(self, lines, low, high):
        told = ask(self, changes, lines, number(low), number(high))
        self.assertEqual(told, exact_changes(lines, low, high))
        times = [fraction(time) for time, pairs in told]
        self.assertEqual(times, sorted(set(times)))
        for time, pairs in told:
            self.assertEqual((type(pairs), pairs), (list, sorted(set(pairs))))

    def test_between_any_two_times_of_small_sets(self):
        for name, lines in SETS.items():
            times = all_times(lines)
            if len(times) <= 12:
                for low, high in itertools.combinations_with_replacement(times, 2):
                    with self.subTest(name, low=low, high=high):
                        self.check(lines, low, high)

    def test_over_all_times(self):
        for name, lines in SETS.items():
            times = all_times(lines)
            for at in range(0, len(times), 7):
                with self.subTest(name, at=at):
                    self.check(lines, times[at], times[-1])
                    self.check(lines, times[0], times[-at - 1])

    def test_low_equal_to_high(self):
        for lines in SETS.values():
            for time in all_times(lines):
                self.assertEqual(changes(lines, number(time), number(time)), [])

    def test_low_at_and_high_at_a_meeting(self):
        lines = [line(0, 1), line(3, -1), line(0, 1), line(1, 1)]
        first = ((1, 1), [(1, 3)])
        second = ((3, 2), [(1, 0), (1, 2)])
        for low, high, told in (
                ((0, 1), (9, 1), [first, second]), ((0, 1), (3, 2), [first, second]),
                ((0, 1), (149, 100), [first]), ((1, 1), (3, 2), [second]),
                ((1, 1), (149, 100), []), ((99, 100), (1, 1), [first]), ((3, 2), (9, 1), []),
                ((-9, 1), (0, 1), []), ((99, 100), (151, 100), [first, second])):
            self.assertEqual(ask(self, changes, lines, low, high), told)

    def test_several_pairs_at_one_time_sorted(self):
        fan = SETS["fan"]
        told = changes(fan, (0, 1), (2, 1))
        self.assertEqual(told, [((3, 2), [
            (0, 1), (0, 3), (0, 4), (2, 0), (2, 1), (2, 3), (2, 4), (3, 1), (3, 4),
            (5, 0), (5, 1), (5, 2), (5, 3), (5, 4)])])

    def test_alike_lines_and_lines_of_one_slope_never(self):
        for lines in SETS.values():
            times = all_times(lines)
            for time, pairs in changes(lines, number(times[0]), number(times[-1])):
                for one, other in pairs:
                    self.assertLess(fraction(lines[one][1]), fraction(lines[other][1]))
        for name in ("none", "one", "four alike", "one slope"):
            self.assertEqual(changes(SETS[name], (-SIXTY, 1), (SIXTY, 1)), [])

    def test_arguments_have_their_names(self):
        lines = [line(0, 0), line(1, -1)]
        self.assertEqual(changes(high=(1, 1), low=(0, 1), lines=lines), [((1, 1), [(1, 0)])])


class Likewise(unittest.TestCase):
    def test_shifted_and_tilted(self):
        for lines in SETS.values():
            for time in all_times(lines):
                order = order_at(lines, number(time))
                later = shifted(lines, HALF, Fraction(7, 3))
                self.assertEqual(order_at(later, number(time + HALF)), order)
                self.assertEqual(order_at(tilted(lines, -4), number(time)), order)

    def test_turned_about_with_the_numbers_turned_about_too(self):
        for lines in SETS.values():
            last = len(lines) - 1
            about = turned_about(lines)[::-1]
            for time in all_times(lines):
                order = [last - runner for runner in order_at(about, number(time))]
                self.assertEqual(order[::-1], order_at(lines, number(time)))

    def test_mirrored_but_at_times_of_change(self):
        for lines in SETS.values():
            for time in all_times(lines):
                if time not in exact_meetings(lines):
                    self.assertEqual(order_at(mirrored(lines), number(-time)),
                                     order_at(lines, number(time)))

    def test_the_changes_mirrored_are_the_other_way_round(self):
        for lines in SETS.values():
            low, high = all_times(lines)[0], all_times(lines)[-1]
            told = changes(lines, number(low), number(high))
            back = [(number(-fraction(time)), sorted((other, one) for one, other in pairs))
                    for time, pairs in reversed(told)]
            self.assertEqual(changes(mirrored(lines), number(-high), number(-low)), back)


class Kept(unittest.TestCase):
    def test_what_is_done_later_changes_nothing_told(self):
        lines = list(SETS["fan"])
        order = order_at(lines, (3, 2))
        told = changes(lines, (0, 1), (2, 1))
        kept = (list(order), [(time, list(pairs)) for time, pairs in told])
        spoil(order_at(lines, (3, 2)))
        spoil(changes(lines, (0, 1), (2, 1)))
        spoil(lines)
        self.assertEqual((order, told), kept)


if __name__ == "__main__":
    unittest.main()
