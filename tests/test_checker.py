import copy
import random
import unittest
from fractions import Fraction

from asking import ask, fraction, number, spoil
from booking import drawn_book, end_times, exact_fault
from exact import SIXTY
from leadtimes.books import book_of
from leadtimes.checker import fault, order_by
from leadtimes.logs import order_then
from racing import exact_order_then, join, leave, logs, race_times, some_times, turn

LOGS = logs()
SHORT = {name: log for name, log in LOGS.items() if len(log) <= 13}


def deed(at):
    return ("deed", at)


def pass_by(time, at):
    return ("pass", number(time), at)


def changed_books(draw, book, log):
    """Books with one thing done to them."""
    for at in range(len(book) + 1):
        yield book[:at]
        time = number(fraction(book[at][1])) if at < len(book) and book[at][0] == "pass" else (2, 1)
        yield book[:at] + [("pass", time, draw.randint(-1, 4))] + book[at:]
        yield book[:at] + [deed(draw.randint(-1, 3))] + book[at:]
    for at, row in enumerate(book):
        rest = book[:at] + book[at + 1:]
        yield rest
        yield book[:at + 1] + book[at:]
        where = draw.randint(0, len(rest))
        yield rest[:where] + [row] + rest[where:]
        for step in (-1, 1, 100, -100):
            yield book[:at] + [row[:-1] + (row[-1] + step,)] + book[at + 1:]
        if row[0] == "pass":
            for step in (Fraction(1, 7), Fraction(-1, 7), Fraction(50), Fraction(-50)):
                moved = ("pass", number(fraction(row[1]) + step), row[2])
                yield book[:at] + [moved] + book[at + 1:]
        other = draw.randrange(len(book))
        wrong = list(book)
        wrong[at], wrong[other] = wrong[other], wrong[at]
        yield wrong


class Faults(unittest.TestCase):
    def check(self, log, end, book):
        told = fault(log, end, book)
        self.assertEqual(told, exact_fault(log, end, book), (log, end, book))
        if told is not None:
            self.assertIs(type(told), int)
        return told

    def test_right_books(self):
        draw = random.Random(21)
        for name, log in LOGS.items():
            for end in end_times(log):
                for turn_of_many in range(3):
                    book = drawn_book(draw, log, end)
                    self.assertIsNone(ask(self, fault, log, end, book), name)
                    self.assertIsNone(exact_fault(log, end, book))

    def test_books_with_one_thing_done_to_them(self):
        draw = random.Random(22)
        let_by = 0
        refused = 0
        for log in SHORT.values():
            for end in end_times(log)[1:3]:
                for book in changed_books(draw, drawn_book(draw, log, end), log):
                    told = self.check(log, end, book)
                    let_by += told is None
                    refused += told is not None
        self.assertGreater(min(let_by, refused), 50)

    def test_with_another_end(self):
        draw = random.Random(23)
        for log in LOGS.values():
            ends = end_times(log)
            for end in ends:
                book = drawn_book(draw, log, end)
                for other in ends + [number(fraction(ends[0]) - 1), number(-SIXTY),
                                     number(fraction(ends[-1]) + 9)]:
                    self.check(log, other, book)

    def test_books_as_drawn(self):
        draw = random.Random(24)
        for log in (LOGS["two"], LOGS["at a meeting"], LOGS["alike"], LOGS["one time"]):
            times = [number(time) for time in race_times(log)]
            for turn_of_many in range(300):
                book = []
                told = None
                while told == len(book) or told is None:
                    row = draw.choice([deed(draw.randint(0, 3)),
                                       ("pass", draw.choice(times), draw.randint(0, 3))])
                    book.append(row)
                    told = self.check(log, draw.choice(times[-4:]), book)
                    if len(book) > 14:
                        break

    def test_told_ones(self):
        log = [join(0, 0, 1), join(1, 5, 0)]
        right = [deed(0), deed(0), pass_by(5, 0)]
        for end, book, told in (
                ((9, 1), right, None), ((5, 1), right, None),
                ((9, 1), right[:2], 2), ((5, 1), right[:2], 2), ((499, 100), right[:2], None),
                ((1, 1), right[:2], None), ((1, 1), right, 2), ((1, 2), right[:1], 1),
                ((1, 2), right, 1), ((-1, 1), right, 0), ((-1, 1), [], 0), ((9, 1), [], 0),
                ((9, 1), right[:1], 1), ((9, 1), right + right[2:], 3),
                ((9, 1), [deed(0), deed(1), pass_by(1, 0), pass_by(5, 0)], None),
                ((9, 1), [deed(0), deed(1), pass_by(5, 0)], 2),
                ((9, 1), [deed(0), deed(1)], 2),
                ((9, 1), [deed(1)], 0), ((9, 1), [deed(-1)], 0), ((9, 1), [deed(0), deed(2)], 1),
                ((9, 1), right + [deed(0)], 3),
                ((9, 1), [deed(0), deed(0), pass_by(6, 0)], 2),
                ((9, 1), [deed(0), deed(0), pass_by(4, 0)], 2),
                ((9, 1), [deed(0), deed(0), pass_by(5, 1)], 2),
                ((9, 1), [deed(0), deed(0), pass_by(5, -1)], 2),
                ((9, 1), [deed(0), pass_by(5, 0), deed(0)], 1)):
            self.assertEqual(ask(self, fault, log, end, book), told, (end, book))

    def test_deeds_of_one_time_with_a_pass_between(self):
        log = [join(0, 0, 0), join(0, 1, 0), join(0, 2, 0)]
        for book, told in (
                ([deed(0), deed(0), deed(0)], None),
                ([deed(0), deed(1), pass_by(0, 0), deed(0)], None),
                ([deed(0), deed(1), deed(2), pass_by(0, 0), pass_by(0, 1), pass_by(0, 0)], None),
                ([deed(0), deed(1), deed(2), pass_by(0, 1), pass_by(0, 0), pass_by(0, 1)], None),
                ([deed(0), deed(1), deed(2), pass_by(0, 1), pass_by(0, 0)], 5),
                ([deed(0), deed(0), pass_by(0, 0), deed(0)], 2),
                ([deed(0), deed(1), deed(0)], 3)):
            self.assertEqual(ask(self, fault, log, (0, 1), book), told)
            self.assertEqual(ask(self, fault, log, (9, 1), book), told)

    def test_the_list_is_to_be_right_from_the_row_ahead_on(self):
        # At 0 the order is wrong; a later row is refused, one of the same time is not.
        log = [join(0, 0, 0), join(0, 5, -1), join(3, 9, 0)]
        self.assertEqual(fault(log, (9, 1), [deed(0), deed(1), deed(0)]), 2)
        self.assertEqual(fault(log, (9, 1), [deed(0), deed(1), pass_by(1, 0)]), 2)
        right = [deed(0), deed(1), pass_by(0, 0), deed(0)]
        self.assertEqual(fault(log, (9, 1), right), 4)
        self.assertIsNone(fault(log, (4, 1), right))
        self.assertEqual(fault(log, (5, 1), right), 4)
        self.assertIsNone(fault(log, (5, 1), right + [pass_by(5, 1)]))

    def test_places_of_those_who_leave_and_turn(self):
        log = [join(0, 0, 0), join(0, 9, 0), turn(1, 0, 1), leave(2, 1)]
        for third, fourth, told in ((1, 0, None), (0, 0, 2), (2, 0, 2), (-1, 0, 2), (1, 1, 3),
                                    (1, -1, 3), (1, 2, 3), (-2, 0, 2), (1, -2, 3)):
            book = [deed(0), deed(0), deed(third), deed(fourth)]
            self.assertEqual(ask(self, fault, log, (3, 1), book), told)

    def test_level_ones_and_alike_lines(self):
        log = [join(0, 0, 0), join(0, 0, 0)]
        self.assertIsNone(fault(log, (9, 1), [deed(0), deed(1)]))
        self.assertEqual(fault(log, (9, 1), [deed(0), deed(0)]), 2)
        self.assertIsNone(fault(log, (9, 1), [deed(0), deed(0), pass_by(0, 0)]))
        self.assertEqual(fault(log, (9, 1), [deed(0), deed(1), pass_by(0, 0)]), 2)

    def test_a_book_without_rows(self):
        for end in ((0, 1), (-SIXTY, 1), (1, 3)):
            self.assertIsNone(ask(self, fault, [], end, []))
            self.assertEqual(fault([], end, [deed(0)]), 0)
            self.assertEqual(fault([], end, [("pass", end, 0)]), 0)

    def test_an_end_earlier_than_a_deed(self):
        log = [join(0, 0, 0), join(5, 0, 0)]
        for end in ((4, 1), (499, 100)):
            self.assertEqual(fault(log, end, [deed(0), deed(1)]), 1)
            self.assertEqual(fault(log, end, [deed(0)]), 1)

    def test_two_thousand_rows(self):
        log = [join(0, 0, 0), join(0, 0, 0)]
        book = [deed(0), deed(1)] + [pass_by(0, 0)] * 1998
        self.assertEqual(fault(log, (1, 1), book), 2)

    def test_arguments_have_their_names(self):
        self.assertIsNone(fault(book=[], end=(0, 1), log=[]))


class Orders(unittest.TestCase):
    def check(self, log, end, book):
        self.assertIsNone(fault(log, end, book))
        for time in some_times(log, 25) + [fraction(end)]:
            if time <= fraction(end):
                told = ask(self, order_by, log, book, number(time))
                self.assertEqual(told, exact_order_then(log, time))
                self.assertEqual(told, order_then(log, number(time)))

    def test_of_books_that_are_told(self):
        for name, log in LOGS.items():
            for end in end_times(log):
                with self.subTest(name, end=end):
                    self.check(log, end, book_of(log, end))

    def test_of_books_whoever_wrote_them(self):
        draw = random.Random(31)
        for name, log in LOGS.items():
            for end in end_times(log)[-2:]:
                with self.subTest(name, end=end):
                    self.check(log, end, drawn_book(draw, log, end))

    def test_of_changed_books_that_are_let_by(self):
        draw = random.Random(32)
        for log in SHORT.values():
            end = end_times(log)[-1]
            for book in changed_books(draw, drawn_book(draw, log, end), log):
                if fault(log, end, book) is None:
                    for time in race_times(log):
                        if time <= fraction(end):
                            self.assertEqual(order_by(log, book, number(time)),
                                             exact_order_then(log, time))

    def test_ahead_of_all(self):
        log = [join(0, 0, 1), join(1, 5, 0)]
        book = [deed(0), deed(0), pass_by(5, 0)]
        for time, told in (((-1, 1), []), ((-1, SIXTY), []), ((0, 1), [0]), ((1, 2), [0]),
                           ((1, 1), [1, 0]), ((499, 100), [1, 0]), ((5, 1), [0, 1]),
                           ((9, 1), [0, 1])):
            self.assertEqual(ask(self, order_by, log, book, time), told)
        self.assertEqual(order_by([], [], (0, 1)), [])

    def test_what_is_done_later_changes_nothing_told(self):
        log = list(LOGS["eight"])
        book = book_of(log, (9, 1))
        told = order_by(log, book, (5, 1))
        kept = copy.deepcopy(told)
        spoil(order_by(log, book, (5, 1)))
        spoil([log, book])
        self.assertEqual(told, kept)

    def test_arguments_have_their_names(self):
        self.assertEqual(order_by(time=(0, 1), book=[deed(0)], log=[join(0, 0, 0)]), [0])


if __name__ == "__main__":
    unittest.main()
