import itertools
import unittest
from fractions import Fraction

from asking import fraction, line, number, refused, spoil
from exact import (
    HALF, SIXTY, ahead_shortly_after, all_times, exact_meetings, exact_order, line_sets, mirrored,
    shifted, tilted, turned_about)
from leadtimes.errors import LeadError, NoTime
from leadtimes.orders import changes, order_at
from leadtimes.papers import papers_at
from leadtimes.walks import Walk

SETS = line_sets()


def exact_papers(lines, order, time):
    """The papers of an order that may be out of date, reckoned by fractions."""
    papers = []
    for one, other in zip(order, order[1:]):
        later = [mark for mark in exact_meetings([lines[one], lines[other]]) if mark > time]
        if ahead_shortly_after(lines, other, one, time):
            till = number(time)
        else:
            till = number(later[0]) if later else None
        papers.append((one, other, till))
    return papers


def least(papers):
    """The first paper with the least till, or None."""
    timed = [paper for paper in papers if paper[2] is not None]
    return min(timed, key=lambda paper: fraction(paper[2])) if timed else None


def held(walk):
    return (walk.time(), walk.order(), walk.papers())


class Steps(unittest.TestCase):
    def check_step(self, lines, walk):
        """One step, held against the papers ahead of it; tells what it tells."""
        time, order, papers = held(walk)
        self.assertEqual(papers, exact_papers(lines, order, fraction(time)))
        paper = least(papers)
        told = walk.step()
        if paper is None:
            self.assertIsNone(told)
            self.assertEqual(held(walk), (time, order, papers))
            return None
        self.assertEqual(told, (paper[2], paper[0], paper[1]))
        at = papers.index(paper)
        order[at], order[at + 1] = order[at + 1], order[at]
        self.assertEqual((walk.time(), walk.order()), (paper[2], order))
        return told

    def walk_to_the_end(self, lines, time):
        walk = Walk(lines, number(time))
        self.assertEqual(held(walk), (number(time), exact_order(lines, time),
                                      papers_at(lines, number(time))))
        steps = []
        told = self.check_step(lines, walk)
        while told is not None:
            steps.append(told)
            told = self.check_step(lines, walk)
        return walk, steps

    def test_all_steps_from_several_times(self):
        for name, lines in SETS.items():
            times = all_times(lines)
            for time in (times[0], times[len(times) // 2], times[-1]):
                with self.subTest(name, time=time):
                    walk, steps = self.walk_to_the_end(lines, time)
                    self.assertEqual(walk.order(), exact_order(lines, times[-1]))

    def test_each_two_that_change_exchanged_once(self):
        for name, lines in SETS.items():
            times = all_times(lines)
            walk, steps = self.walk_to_the_end(lines, times[0])
            told = {}
            for time, one, other in steps:
                told.setdefault(time, []).append((one, other))
            exact = changes(lines, number(times[0]), number(times[-1]))
            self.assertEqual([(time, sorted(pairs)) for time, pairs in told.items()], exact, name)

    def test_at_first(self):
        walk = Walk([line(0, 1), line(3, -1), line(1, 1)], (0, 1))
        self.assertEqual(held(walk), ((0, 1), [1, 2, 0], [(1, 2, (1, 1)), (2, 0, None)]))
        self.assertEqual(held(Walk([], (7, 2))), ((7, 2), [], []))
        self.assertEqual(held(Walk([line(4, 4)], (7, 2))), ((7, 2), [0], []))

    def test_several_that_meet_at_one_time(self):
        lines = [line(2, -1), line(1, 0), line(0, 1), line(0, 1)]
        walk = Walk(lines, (0, 1))
        self.assertEqual(walk.order(), [0, 1, 2, 3])
        self.assertEqual(walk.papers(), [(0, 1, (1, 1)), (1, 2, (1, 1)), (2, 3, None)])
        self.assertEqual(walk.step(), ((1, 1), 0, 1))
        self.assertEqual(walk.papers(), [(1, 0, None), (0, 2, (1, 1)), (2, 3, None)])
        self.assertEqual(walk.step(), ((1, 1), 0, 2))
        self.assertEqual(walk.papers(), [(1, 2, (1, 1)), (2, 0, None), (0, 3, (1, 1))])
        self.assertEqual(walk.step(), ((1, 1), 1, 2))
        self.assertEqual(walk.papers(), [(2, 1, None), (1, 0, None), (0, 3, (1, 1))])
        self.assertEqual(walk.step(), ((1, 1), 0, 3))
        self.assertEqual(walk.step(), ((1, 1), 1, 3))
        self.assertEqual(held(walk), ((1, 1), [2, 3, 1, 0],
                                      [(2, 3, None), (3, 1, None), (1, 0, None)]))
        self.assertIsNone(walk.step())
        self.assertEqual(walk.time(), (1, 1))

    def test_of_several_least_tills_the_first_from_the_front(self):
        lines = [line(11, -1), line(10, 0), line(6, -1), line(5, 0)]
        walk = Walk(lines, (0, 1))
        self.assertEqual(walk.step(), ((1, 1), 0, 1))
        self.assertEqual(walk.step(), ((1, 1), 2, 3))
        self.assertEqual(walk.step(), ((6, 1), 0, 3))

    def test_none_where_no_till_is_a_time(self):
        for lines in ([], [line(1, 1)], [line(1, 1)] * 3, [line(at, 2) for at in range(4)]):
            walk = Walk(lines, (1, 2))
            kept = held(walk)
            self.assertIsNone(walk.step())
            self.assertEqual(held(walk), kept)

    def test_arguments_have_their_names(self):
        walk = Walk(time=(0, 1), lines=[line(0, 0)])
        self.assertEqual(walk.go(time=(1, 1)), [])


class Going(unittest.TestCase):
    def check_go(self, lines, start, time):
        walk = Walk(lines, number(start))
        other = Walk(lines, number(start))
        steps = []
        paper = least(other.papers())
        while paper is not None and fraction(paper[2]) <= time:
            steps.append(other.step())
            paper = least(other.papers())
        self.assertEqual(walk.go(number(time)), steps)
        self.assertEqual(walk.time(), number(time))
        self.assertEqual(walk.order(), exact_order(lines, time))
        self.assertEqual(walk.order(), order_at(lines, number(time)))
        self.assertEqual(walk.papers(), papers_at(lines, number(time)))

    def test_to_all_times(self):
        for name, lines in SETS.items():
            times = all_times(lines)
            late = times[::max(1, len(times) // 9)] + times[-1:]
            for start in (times[0], times[len(times) // 3]):
                for time in late:
                    if time >= start:
                        with self.subTest(name, start=start, time=time):
                            self.check_go(lines, start, time)

    def test_bit_by_bit_it_comes_to_the_same(self):
        for name, lines in SETS.items():
            times = all_times(lines)
            walk = Walk(lines, number(times[0]))
            told = []
            for time in times:
                told += walk.go(number(time))
                self.assertEqual(walk.order(), exact_order(lines, time), name)
                self.assertEqual(walk.papers(), papers_at(lines, number(time)), name)
            self.assertEqual(told, Walk(lines, number(times[0])).go(number(times[-1])))

    def test_to_its_own_time(self):
        for lines in SETS.values():
            for time in all_times(lines)[::4]:
                walk = Walk(lines, number(time))
                kept = held(walk)
                self.assertEqual(walk.go(number(time)), [])
                self.assertEqual(held(walk), kept)

    def test_in_the_midst_of_one_times_steps(self):
        fan = SETS["fan"]
        for many in range(1, 14):
            for time in ((3, 2), (2, 1)):
                walk = Walk(fan, (0, 1))
                told = [walk.step() for turn in range(many)]
                self.assertEqual([step[0] for step in told], [(3, 2)] * many)
                self.assertEqual(walk.time(), (3, 2))
                told += walk.go(time)
                self.assertEqual(told, Walk(fan, (0, 1)).go(time))
                self.assertEqual(len(told), 14)
                self.assertEqual((walk.time(), walk.order()), (time, order_at(fan, time)))

    def test_to_a_till_ahead_of_it_and_beyond_all(self):
        lines = [line(0, 1), line(3, -1)]
        for time, told in (((149, 100), []), ((3, 2), [((3, 2), 1, 0)]),
                           ((151, 100), [((3, 2), 1, 0)]), ((SIXTY, 1), [((3, 2), 1, 0)])):
            walk = Walk(lines, (0, 1))
            self.assertEqual(walk.go(time), told)
            self.assertEqual(walk.time(), time)
            self.assertEqual(walk.order(), [0, 1] if told else [1, 0])

    def test_an_earlier_time_is_refused(self):
        for name, lines in SETS.items():
            times = all_times(lines)
            walk = Walk(lines, number(times[1]))
            for turn in range(4):
                kept = held(walk)
                early = fraction(walk.time())
                for time in (early - Fraction(1, SIXTY), early - 1, -Fraction(10 ** 70)):
                    refused(self, NoTime, walk.go, number(time))
                    self.assertEqual(held(walk), kept, name)
                walk.step()

    def test_an_earlier_time_in_the_midst_of_steps(self):
        walk = Walk(SETS["fan"], (0, 1))
        for turn in range(5):
            walk.step()
        kept = held(walk)
        refused(self, NoTime, walk.go, (149, 100))
        self.assertEqual(held(walk), kept)

    def test_the_refusal_is_a_lead_error(self):
        with self.assertRaises(LeadError):
            Walk([], (0, 1)).go((-1, 1))


class Kept(unittest.TestCase):
    def test_the_list_of_lines_changed_behind_the_making(self):
        for name, told in SETS.items():
            lines = list(told)
            time = number(all_times(told)[0])
            walk = Walk(lines, time)
            self.assertEqual(lines, told)
            spoil(lines)
            other = Walk(told, time)
            self.assertEqual(held(walk), held(other), name)
            step = other.step()
            while step is not None:
                self.assertEqual(walk.step(), step)
                self.assertEqual(held(walk), held(other))
                step = other.step()

    def test_what_is_told_is_the_askers_own(self):
        walk = Walk(SETS["hull"], (-9, 1))
        for turn in range(20):
            kept = held(walk)
            told = held(walk)
            spoil(told)
            self.assertEqual(held(walk), kept)
            before = (walk.order(), walk.papers())
            walk.step()
            self.assertEqual(before, (kept[1], kept[2]))
        spoil(walk.go((1, 1)))
        self.assertEqual(walk.order(), order_at(SETS["hull"], (1, 1)))

    def test_two_beside_one_another(self):
        lines = SETS["mixed"]
        one = Walk(lines, (-9, 1))
        other = Walk(lines, (-9, 1))
        kept = held(other)
        one.go((5, 1))
        self.assertEqual(held(other), kept)


class Likewise(unittest.TestCase):
    def steps(self, lines, low, high):
        return Walk(lines, number(low)).go(number(high))

    def test_shifted_and_tilted(self):
        for lines in SETS.values():
            times = all_times(lines)
            told = self.steps(lines, times[0], times[-1])
            later = [(number(fraction(time) + HALF), one, other) for time, one, other in told]
            moved = shifted(lines, HALF, -5)
            self.assertEqual(self.steps(moved, times[0] + HALF, times[-1] + HALF), later)
            self.assertEqual(self.steps(tilted(lines, -HALF), times[0], times[-1]), told)

    def test_mirrored_turned_about_and_renumbered_the_same_twos_change(self):
        for lines in SETS.values():
            low, high = all_times(lines)[0], all_times(lines)[-1]
            last = len(lines) - 1
            told = sorted(self.steps(lines, low, high))
            back = self.steps(mirrored(lines), -high, -low)
            self.assertEqual(told, sorted((number(-fraction(time)), other, one)
                                          for time, one, other in back))
            about = self.steps(turned_about(lines)[::-1], low, high)
            self.assertEqual(told, sorted((time, last - other, last - one)
                                          for time, one, other in about))
            turned = self.steps(lines[::-1], low, high)
            self.assertEqual(told, sorted((time, last - one, last - other)
                                          for time, one, other in turned))

    def test_no_two_exchanged_twice(self):
        for lines in SETS.values():
            low, high = all_times(lines)[0], all_times(lines)[-1]
            twos = [frozenset(step[1:]) for step in self.steps(lines, low, high)]
            self.assertEqual(len(twos), len(set(twos)))
            crossing = [pair for pair in itertools.combinations(lines, 2)
                        if exact_meetings(list(pair))]
            self.assertEqual(len(twos), len(crossing))


if __name__ == "__main__":
    unittest.main()
