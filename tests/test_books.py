import copy
import unittest
from fractions import Fraction

from asking import ask, fraction, number, refused, spoil
from booking import end_times, exact_fault
from exact import SIXTY
from leadtimes.books import book_of
from leadtimes.checker import fault
from leadtimes.errors import LeadError, NoTime
from leadtimes.numbers import is_number
from racing import drawn_log, join, leave, logs, turn

LOGS = logs()


class Books(unittest.TestCase):
    def check_form(self, book):
        self.assertIs(type(book), list)
        for row in book:
            self.assertIs(type(row), tuple)
            self.assertIs(type(row[-1]), int)
            if row[0] == "pass":
                self.assertEqual((len(row), is_number(row[1])), (3, True))
            else:
                self.assertEqual((len(row), row[0]), (2, "deed"))

    def check(self, log, end):
        book = ask(self, book_of, log, end)
        self.check_form(book)
        self.assertIsNone(fault(log, end, book))
        self.assertIsNone(exact_fault(log, end, book))

    def test_it_is_let_by(self):
        for name, log in LOGS.items():
            for end in end_times(log):
                with self.subTest(name, end=end):
                    self.check(log, end)

    def test_of_more_logs_as_drawn(self):
        for seed in range(100, 125):
            log = drawn_log(seed, 25, "small")
            for end in end_times(log):
                with self.subTest(seed=seed, end=end):
                    self.check(log, end)

    def test_each_beginning_of_a_log(self):
        for log in LOGS.values():
            for many in range(len(log)):
                end = log[many][1]
                self.assertIsNone(fault(log[:many], end, book_of(log[:many], end)))

    def test_turns_and_joins_level_with_others(self):
        for slope in (-2, -1, 0, Fraction(1, 2), 1, 2, 3):
            log = [join(0, 0, 0), join(0, 0, 1), join(0, 0, 2), join(0, 0, 1), turn(0, 2, slope),
                   join(0, 0, slope), turn(0, 0, slope), leave(0, 1)]
            for end in ((0, 1), (1, 1)):
                self.check(log, end)
            log = [join(0, 2, -1), join(0, 1, 0), join(0, 0, 1), turn(1, 1, slope),
                   join(1, 1, slope), turn(1, 0, -slope), turn(2, 0, slope)]
            for end in ((2, 1), (5, 1)):
                self.check(log, end)

    def test_told_ones(self):
        self.assertEqual(book_of([], (0, 1)), [])
        self.assertEqual(book_of([], (-SIXTY, 1)), [])
        self.assertEqual(book_of([join(0, 0, 0)], (0, 1)), [("deed", 0)])
        self.check([join(0, 0, 0)], (SIXTY, 7))

    def test_an_end_earlier_than_a_deed(self):
        for name, log in LOGS.items():
            if log:
                last = fraction(log[-1][1])
                for end in (last - Fraction(1, SIXTY), last - 1, fraction(log[0][1]) - 1):
                    refused(self, NoTime, book_of, log, number(end))

    def test_the_refusal_is_a_lead_error(self):
        with self.assertRaises(LeadError):
            book_of([join(0, 0, 0)], (-1, 1))

    def test_what_is_done_later_changes_nothing_told(self):
        log = list(LOGS["eight"])
        book = book_of(log, (9, 1))
        kept = copy.deepcopy(book)
        spoil(book_of(log, (9, 1)))
        spoil(log)
        self.assertEqual(book, kept)

    def test_arguments_have_their_names(self):
        self.assertEqual(book_of(end=(0, 1), log=[]), [])


if __name__ == "__main__":
    unittest.main()
