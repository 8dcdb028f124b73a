import itertools
import random
import unittest
from fractions import Fraction

from asking import ask, fraction, line, number, spoil
from exact import (
    HALF, SIXTY, ahead_shortly_after, all_times, exact_order, exact_meetings, line_sets, shifted,
    tilted, times_about, told_sets)
from leadtimes.lines import next_change
from leadtimes.orders import order_at
from leadtimes.papers import is_right, papers_at, shown

SETS = line_sets()
FEW = {name: lines for name, lines in SETS.items() if len(lines) <= 4}


def is_exactly_right(lines, time, paper):
    """By asking who is ahead at all times from the time on and earlier than till."""
    one, other, till = paper
    if one == other or not 0 <= one < len(lines) or not 0 <= other < len(lines):
        return False
    marks = exact_meetings([lines[one], lines[other]]) + [time]
    if till is not None:
        if fraction(till) <= time:
            return False
        marks.append(fraction(till))
    times = [mark for mark in times_about(marks)
             if mark >= time and (till is None or mark < fraction(till))]
    return all(ahead_shortly_after(lines, one, other, mark) for mark in times)


class Right(unittest.TestCase):
    def tills(self, lines, time):
        told = [None, number(time), number(time - 1), number(time + Fraction(1, SIXTY)),
                (SIXTY, 1), (-SIXTY, 1)]
        for mark in exact_meetings(lines):
            told += [number(mark), number((mark + time) / 2), number(mark + Fraction(1, 1000))]
        return told

    def test_all_papers_of_few_runners(self):
        for name, lines in FEW.items():
            numbers = range(-2, len(lines) + 2)
            for time in all_times(lines):
                tills = self.tills(lines, time)
                for paper in itertools.product(numbers, numbers, tills):
                    told = is_right(lines, number(time), paper)
                    self.assertIs(told, is_exactly_right(lines, time, paper), (name, time, paper))

    def test_papers_of_many_runners(self):
        for name, lines in SETS.items():
            if lines:
                draw = random.Random(name)
                times = all_times(lines)
                for turn in range(60):
                    time = draw.choice(times)
                    paper = (draw.randrange(len(lines)), draw.randrange(len(lines)),
                             draw.choice([None] + [number(mark) for mark in times]))
                    told = ask(self, is_right, lines, number(time), paper)
                    self.assertIs(told, is_exactly_right(lines, time, paper), (name, time, paper))

    def test_tills_about_the_next_change(self):
        lines = [line(0, 1), line(3, -1)]
        for till, told in ((None, False), ((3, 2), True), ((149, 100), True), ((1, 1000), True),
                           ((151, 100), False), ((2, 1), False), ((0, 1), False), ((-1, 1), False)):
            self.assertIs(ask(self, is_right, lines, (0, 1), (1, 0, till)), told)
            self.assertIs(ask(self, is_right, lines, (0, 1), (0, 1, till)), False)

    def test_from_the_change_on(self):
        lines = [line(0, 1), line(3, -1)]
        for till, told in ((None, True), ((3, 2), False), ((1, 1), False), ((151, 100), True),
                           ((SIXTY, 1), True)):
            self.assertIs(ask(self, is_right, lines, (3, 2), (0, 1, till)), told)
            self.assertIs(ask(self, is_right, lines, (3, 2), (1, 0, till)), False)

    def test_alike_lines(self):
        lines = [line(1, 1), line(1, 1)]
        for till in (None, (9, 1)):
            self.assertIs(is_right(lines, (0, 1), (0, 1, till)), True)
            self.assertIs(is_right(lines, (0, 1), (1, 0, till)), False)

    def test_what_tells_no_two_unlike_runners(self):
        lines = [line(2, 0), line(1, 0), line(0, 0)]
        self.assertIs(is_right(lines, (0, 1), (0, 2, None)), True)
        for one, other in ((0, 0), (2, 2), (-1, 2), (0, -1), (-3, -1), (0, 3), (3, 0), (3, 4),
                           (3, 3), (-1, -1), (SIXTY, 2), (0, -SIXTY)):
            for till in (None, (1, 1)):
                self.assertIs(ask(self, is_right, lines, (0, 1), (one, other, till)), False)
        self.assertIs(is_right([], (0, 1), (0, 1, None)), False)

    def test_arguments_have_their_names(self):
        lines = [line(2, 0), line(1, 0)]
        self.assertIs(is_right(paper=(0, 1, None), time=(0, 1), lines=lines), True)


class At(unittest.TestCase):
    def test_all_neighbours_at_all_times(self):
        for name, lines in SETS.items():
            for time in all_times(lines)[::3]:
                order = exact_order(lines, time)
                told = ask(self, papers_at, lines, number(time))
                exact = [(one, other, next_change(lines, one, other, number(time)))
                         for one, other in zip(order, order[1:])]
                self.assertEqual(told, exact, name)
                self.assertEqual(order, order_at(lines, number(time)))
                for paper in told:
                    self.assertIs(type(paper), tuple)
                    self.assertIs(is_right(lines, number(time), paper), True)

    def test_none_and_one_runner(self):
        self.assertEqual(papers_at([], (0, 1)), [])
        self.assertEqual(papers_at([line(3, 1)], (0, 1)), [])

    def test_told_ones(self):
        lines = [line(0, 1), line(3, -1), line(1, 1)]
        self.assertEqual(papers_at(lines, (0, 1)), [(1, 2, (1, 1)), (2, 0, None)])
        self.assertEqual(papers_at(lines, (1, 1)), [(2, 1, None), (1, 0, (3, 2))])
        self.assertEqual(papers_at(lines, (3, 2)), [(2, 0, None), (0, 1, None)])

    def test_arguments_have_their_names(self):
        self.assertEqual(papers_at(time=(0, 1), lines=[line(0, 0)] * 2), [(0, 1, None)])


def least_till(papers):
    tills = [fraction(till) for one, other, till in papers if till is not None]
    return number(min(tills)) if tills else None


class Shown(unittest.TestCase):
    def each(self):
        for name, lines in SETS.items():
            times = all_times(lines)
            for time in times[::max(1, len(times) // 8)]:
                yield lines, time, papers_at(lines, number(time))

    def test_of_the_papers_at_a_time(self):
        for lines, time, papers in self.each():
            told = ask(self, shown, lines, number(time), papers)
            self.assertEqual((type(told), len(told)), (tuple, 2))
            self.assertEqual(told, (exact_order(lines, time), least_till(papers)))

    def test_the_order_holds_until_the_first_fails(self):
        for lines, time, papers in self.each():
            order, until = shown(lines, number(time), papers)
            for later in all_times(lines):
                if later >= time and (until is None or later < fraction(until)):
                    self.assertEqual(exact_order(lines, later), order)
                    self.assertEqual(shown(lines, number(later), papers), (order, until))
            if until is not None:
                self.assertNotEqual(exact_order(lines, fraction(until)), order)
                self.assertIsNone(shown(lines, until, papers))

    def test_in_another_order_and_some_twice(self):
        for lines, time, papers in self.each():
            told = shown(lines, number(time), papers)
            self.assertEqual(shown(lines, number(time), papers[::-1]), told)
            self.assertEqual(shown(lines, number(time), papers + papers[:2]), told)

    def test_with_more_right_papers(self):
        for lines, time, papers in self.each():
            order = exact_order(lines, time)
            more = [(one, other, next_change(lines, one, other, number(time)))
                    for one, other in itertools.combinations(order, 2)]
            told = ask(self, shown, lines, number(time), more + papers)
            self.assertEqual(told, (order, least_till(more)))

    def test_a_further_paper_with_the_least_till_counts(self):
        lines = [line(5, 0), line(3, 0), line(1, 0)]
        papers = [(0, 1, None), (1, 2, (7, 1))]
        self.assertEqual(shown(lines, (0, 1), papers), ([0, 1, 2], (7, 1)))
        self.assertEqual(shown(lines, (0, 1), papers + [(0, 2, (2, 1))]), ([0, 1, 2], (2, 1)))
        self.assertEqual(shown(lines, (0, 1), papers + [(0, 1, (9, 2))]), ([0, 1, 2], (9, 2)))

    def test_with_lesser_tills(self):
        for lines, time, papers in self.each():
            lesser = []
            for at, (one, other, till) in enumerate(papers):
                end = time + 9 + at if till is None else (time + fraction(till)) / 2
                lesser.append((one, other, number(end)))
            told = shown(lines, number(time), lesser)
            self.assertEqual(told, (exact_order(lines, time), least_till(lesser)))

    def test_one_left_out(self):
        for lines, time, papers in self.each():
            for at in range(len(papers)):
                rest = papers[:at] + papers[at + 1:]
                self.assertIsNone(ask(self, shown, lines, number(time), rest))

    def test_one_that_is_not_right(self):
        for lines, time, papers in self.each():
            for at, (one, other, till) in enumerate(papers):
                wrong = [(other, one, till), (one, other, number(time)), (one, one, None),
                         (one, len(lines), None), (-1, other, None)]
                if till is not None:
                    wrong += [(one, other, None), (one, other, number(fraction(till) + HALF))]
                for paper in wrong:
                    self.assertIsNone(shown(lines, number(time), papers + [paper]))
                    self.assertIsNone(
                        shown(lines, number(time), papers[:at] + [paper] + papers[at + 1:]))

    def test_none_and_one_runner(self):
        self.assertEqual(shown([], (0, 1), []), ([], None))
        self.assertEqual(shown([line(1, 1)], (0, 1), []), ([0], None))
        self.assertIsNone(shown([], (0, 1), [(0, 1, None)]))
        self.assertIsNone(shown([line(1, 1)], (0, 1), [(0, 0, None)]))

    def test_two_thousand_papers(self):
        lines = [line(5, 0), line(3, 1)]
        papers = [(0, 1, number(2 * at, 2000)) for at in range(2000, 0, -1)]
        self.assertEqual(shown(lines, (0, 1), papers), ([0, 1], (1, 1000)))

    def test_the_order_told_is_the_askers_own(self):
        for lines in told_sets().values():
            papers = papers_at(lines, (0, 1))
            told = shown(lines, (0, 1), papers)
            kept = (list(told[0]), told[1])
            spoil(shown(lines, (0, 1), papers))
            spoil(papers)
            self.assertEqual(told, kept)

    def test_arguments_have_their_names(self):
        lines = [line(2, 0), line(1, 0)]
        self.assertEqual(shown(papers=[(0, 1, None)], time=(0, 1), lines=lines), ([0, 1], None))


class Likewise(unittest.TestCase):
    def test_shifted_and_tilted(self):
        for lines in SETS.values():
            for time in all_times(lines)[::5]:
                papers = papers_at(lines, number(time))
                later = [(one, other, till and number(fraction(till) + HALF))
                         for one, other, till in papers]
                told = papers_at(shifted(lines, HALF, 8), number(time + HALF))
                self.assertEqual(told, later)
                self.assertEqual(papers_at(tilted(lines, HALF), number(time)), papers)

    def test_with_other_numbers(self):
        for lines in SETS.values():
            last = len(lines) - 1
            if len(set(lines)) == len(lines):
                for time in all_times(lines)[::5]:
                    told = [(last - one, last - other, till) for one, other, till
                            in papers_at(lines[::-1], number(time))]
                    self.assertEqual(told, papers_at(lines, number(time)))


if __name__ == "__main__":
    unittest.main()
