import random
import unittest
from fractions import Fraction

from asking import ask, number
from booking import drawn_book, end_times
from exact import SIXTY
from leadtimes.books import book_of
from leadtimes.errors import LeadError, NoLog, NoText
from leadtimes.texts import read_book, read_log, read_number, show_book, show_log, show_number
from racing import TOP, join, leave, logs, turn

LOGS = logs()


class Odd:
    """A thing that is like nothing else."""


NO_TEXTS = (None, True, False, 0, 1, (0, 1), (), [], ["0"], {}, {"0": 1}, b"0", 1.5, Odd, Odd(),
            [join(0, 0, 0)], [("deed", 0)], Fraction(1, 2), len)

NO_WHOLES = ("", " ", "-", "+", "+1", "01", "00", "007", "-0", "-01", "1.0", "1.", ".1", "1e3",
             "1_000", "0x1", "a", "1a", "a1", " 1", "1 ", "1\t", "\t1", "\r1", "1\r", "--1", "1-", "- 1",
             "0-", "\u0661", "\u00b2", "\uff11", "1,000", "1" * 61, "-" + "1" * 61, "1" + "0" * 60,
             "9" * 200, "1;", ";", "1|", "(1, 1)", "None")

NO_FRACTIONS = ("/", "1/", "/2", "1/1", "0/1", "-3/1", "1/0", "0/0", "1/-2", "-1/-2", "1/+2",
                "2/4", "0/2", "6/3", "-6/3", "1/02", "01/2", "-0/3", "1//2", "1/2/3", "1 /2",
                "1/ 2", "1/2 ", " 1/2", "1/2/", "1:2", "1\\2", "3/" + "3" * 60,
                "1/" + "1" * 61, "1" * 61 + "/2", "1/2.0", "1/a", "a/2", "-/2", "1/1" + "0" * 60)


class Case(unittest.TestCase):
    def refuse(self, function, thing, line):
        for turn_of_two in range(2):
            with self.assertRaises(ValueError) as caught:
                function(thing)
            self.assertIs(type(caught.exception), NoText)
            self.assertEqual((type(caught.exception.line), caught.exception.line), (int, line))

    def refuse_log(self, text, at):
        with self.assertRaises(ValueError) as caught:
            read_log(text)
        self.assertIs(type(caught.exception), NoLog)
        self.assertEqual(caught.exception.at, at)


class Numbers(Case):
    def check(self, told):
        text = ask(self, show_number, told)
        self.assertIs(type(text), str)
        self.assertEqual(text, str(Fraction(told[0], told[1])))
        self.assertEqual(ask(self, read_number, text), told)

    def test_written_and_read_back(self):
        for top in range(-30, 31):
            for bottom in range(1, 13):
                self.check(number(top, bottom))

    def test_sixty_figures(self):
        for told in ((SIXTY, 1), (-SIXTY, 1), (1, SIXTY), (-1, SIXTY), (SIXTY, SIXTY - 1),
                     (-SIXTY + 1, SIXTY), (10 ** 59, 1), (-10 ** 59, 3)):
            self.check(told)

    def test_told_ones(self):
        for told, text in (((0, 1), "0"), ((7, 1), "7"), ((-7, 1), "-7"), ((1, 2), "1/2"),
                           ((-22, 7), "-22/7"), ((10, 1), "10"), ((0, 1), "0"), ((100, 101), "100/101")):
            self.assertEqual(show_number(told), text)
            self.assertEqual(read_number(text), told)

    def test_up_to_two_hundred_figures_written_and_not_read(self):
        for figures in (61, 62, 100, 199, 200):
            top = 10 ** figures - 1
            for told, text in (((top, 1), "9" * figures), ((-top, 1), "-" + "9" * figures),
                               ((top, 2), "9" * figures + "/2"), ((2, top), "2/" + "9" * figures),
                               ((-top, top - 1), "-" + "9" * figures + "/" + "9" * (figures - 1) + "8")):
                self.assertEqual(ask(self, show_number, told), text)
                self.refuse(read_number, text, 0)

    def test_texts_that_are_none(self):
        for text in NO_WHOLES + NO_FRACTIONS + ("1\n", "\n1", "\n", "1\n2", "1 2", "1/2\n"):
            self.refuse(read_number, text, 0)

    def test_what_is_no_text(self):
        for thing in NO_TEXTS:
            self.refuse(read_number, thing, 0)

    def test_the_refusal_is_a_lead_error(self):
        with self.assertRaises(LeadError):
            read_number("x")

    def test_arguments_have_their_names(self):
        self.assertEqual(show_number(number=(1, 2)), "1/2")
        self.assertEqual(read_number(text="1/2"), (1, 2))


class Logs(Case):
    GOOD = "join 0 0 1\njoin 1/2 5 -1/3\nturn 1 0 2\nleave 2 1"

    def test_written_and_read_back(self):
        for name, log in LOGS.items():
            text = ask(self, show_log, log)
            self.assertIs(type(text), str)
            self.assertEqual(len(text.split("\n")) if text else 0, len(log), name)
            self.assertEqual(ask(self, read_log, text), log, name)

    def test_told_ones(self):
        self.assertEqual(show_log([]), "")
        self.assertEqual(read_log(""), [])
        log = [join(0, 0, 1), join(Fraction(1, 2), 5, Fraction(-1, 3)), turn(1, 0, 2), leave(2, 1)]
        self.assertEqual(show_log(log), self.GOOD)
        self.assertEqual(read_log(self.GOOD), log)
        greatest = [join(Fraction(-TOP, 11), TOP, Fraction(-TOP, 7))]
        self.assertEqual(show_log(greatest), "join -999999999/11 999999999 -999999999/7")

    def wrong_lines(self):
        lines = ["", " ", "join", "join ", "join 9", "join 9 0", "join 9 0 0 0", "join 9 0 0 ",
                 " join 9 0 0", "join  9 0 0", "join 9  0 0", "join 9 0  0", "Join 9 0 0",
                 "JOIN 9 0 0", "joins 9 0 0", "hop 9 0 0", "9 0 0", "join\t9 0 0", "join 9 0 0\r",
                 "leave", "leave 9", "leave 9 0 0", "leave 9 0 ", "leave 9 ", "leave 9  0",
                 "leave 0", "turn 9 0", "turn 9 0 0 0", "turn 9", "turn", "turn 9 0 0 ",
                 "deed 0", "pass 9 0", "join 9 0 0;join 9 0 0", "leave 9 1/2", "leave 9 -1",
                 "turn 9 -1 0", "turn 9 1/2 0", "leave 9 0/1", "-", "#"]
        for word in NO_WHOLES + NO_FRACTIONS:
            lines += [f"join {word} 0 0", f"join 9 {word} 0", f"join 9 0 {word}",
                      f"leave {word} 0", f"turn {word} 0 0", f"turn 9 0 {word}",
                      f"leave 9 {word}", f"turn 9 {word} 0"]
        return lines

    def test_lines_that_are_none(self):
        for wrong in self.wrong_lines():
            # The text without signs is the one of no deeds; behind others it is an empty line.
            if wrong:
                self.refuse(read_log, wrong, 0)
            self.refuse(read_log, wrong + "\n" + self.GOOD, 0)
            self.refuse(read_log, self.GOOD + "\n" + wrong, 4)
            self.refuse(read_log, self.GOOD + "\n" + wrong + "\n" + wrong, 4)
            self.refuse(read_log, "join 0 0 1\n" + wrong + "\njoin 3 0 0", 1)

    def test_line_feeds_too_many(self):
        self.refuse(read_log, "\n", 0)
        self.refuse(read_log, "\n\n", 0)
        self.refuse(read_log, self.GOOD + "\n", 4)
        self.refuse(read_log, "\n" + self.GOOD, 0)
        self.refuse(read_log, self.GOOD.replace("\nturn", "\n\nturn"), 2)

    def test_what_is_no_text(self):
        for thing in NO_TEXTS:
            self.refuse(read_log, thing, 0)

    def test_texts_of_what_is_no_log(self):
        for text, at in (("leave 0 0", 0), ("turn 0 0 1", 0), (self.GOOD + "\nleave 3 1", 4),
                         (self.GOOD + "\nleave 3 7", 4), (self.GOOD + "\njoin 1 0 0", 4),
                         ("join 1000000000 0 0", 0), ("join 0 0 1/13", 0),
                         ("join 0 0 0\njoin 0 " + "9" * 60 + " 0", 1),
                         ("join 0 0 0\nleave 1 " + "9" * 60, 1),
                         ("\n".join(["join 0 0 0"] * 9), 8),
                         ("\n".join(["join 0 0 0"] + ["turn 0 0 0"] * 40), 40),
                         ("\n".join(["join 0 0 0"] + ["turn 0 0 0"] * 100), 40)):
            self.refuse_log(text, at)

    def test_no_text_goes_first(self):
        self.refuse(read_log, "leave 0 0\nhop", 1)
        self.refuse(read_log, "leave 0 0\njoin 0 0 0\n", 2)
        self.refuse(read_log, "\n".join(["join 0 0 0"] * 50 + ["x"]), 50)

    def test_arguments_have_their_names(self):
        self.assertEqual(show_log(log=[]), "")
        self.assertEqual(read_log(text=""), [])


class Books(Case):
    GOOD = "deed 0\ndeed 1\npass 1/2 0\npass -3 12"

    def test_written_and_read_back(self):
        draw = random.Random(41)
        for name, log in LOGS.items():
            for end in end_times(log):
                for book in (book_of(log, end), drawn_book(draw, log, end)):
                    text = ask(self, show_book, book)
                    self.assertEqual(len(text.split("\n")) if text else 0, len(book), name)
                    self.assertEqual(ask(self, read_book, text), book, name)

    def test_told_ones(self):
        book = [("deed", 0), ("deed", 1), ("pass", (1, 2), 0), ("pass", (-3, 1), 12)]
        self.assertEqual(show_book(book), self.GOOD)
        self.assertEqual(read_book(self.GOOD), book)
        self.assertEqual(show_book([]), "")
        self.assertEqual(read_book(""), [])

    def test_sixty_figures(self):
        book = [("deed", SIXTY), ("pass", (-SIXTY, SIXTY - 1), SIXTY)]
        self.assertEqual(read_book(show_book(book)), book)

    def test_up_to_two_hundred_figures_written(self):
        long = 10 ** 200 - 1
        self.assertEqual(show_book([("deed", 0), ("pass", (long, 2), 3)]),
                         "deed 0\npass " + "9" * 200 + "/2 3")
        self.refuse(read_book, show_book([("deed", 0), ("pass", (long, 2), 3)]), 1)

    def test_a_thousand_rows(self):
        text = "\n".join(["pass 1/2 0"] * 1700)
        self.assertEqual(show_book(read_book(text)), text)

    def wrong_lines(self):
        lines = ["", " ", "deed", "deed ", " deed 0", "deed  0", "deed 0 0", "deed 0 ", "deed -1",
                 "deed 1/2", "deeds 0", "Deed 0", "0", "pass", "pass 0", "pass 0 ", "pass 0 0 0",
                 "pass 0  0", "pass  0 0", "pass 0 -1", "pass 0 1/2", "pass 0 0 ", "join 0 0 0",
                 "leave 0 0", "pass\t0 0", "deed 0\r", "deed 0;deed 0"]
        for word in NO_WHOLES + NO_FRACTIONS:
            lines += [f"deed {word}", f"pass {word} 0", f"pass 0 {word}"]
        return lines

    def test_lines_that_are_none(self):
        for wrong in self.wrong_lines():
            if wrong:
                self.refuse(read_book, wrong, 0)
            self.refuse(read_book, wrong + "\n" + self.GOOD, 0)
            self.refuse(read_book, self.GOOD + "\n" + wrong, 4)
            self.refuse(read_book, "deed 0\n" + wrong + "\n" + wrong, 1)
        self.refuse(read_book, "\n", 0)

    def test_what_is_no_text(self):
        for thing in NO_TEXTS:
            self.refuse(read_book, thing, 0)

    def test_arguments_have_their_names(self):
        self.assertEqual(show_book(book=[]), "")
        self.assertEqual(read_book(text=""), [])


if __name__ == "__main__":
    unittest.main()
