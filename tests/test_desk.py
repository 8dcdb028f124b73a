import random
import unittest
from fractions import Fraction

from asking import fraction, number
from booking import drawn_book, end_times, exact_fault
from exact import SIXTY
from leadtimes.checker import fault, order_by
from leadtimes.desk import Desk
from leadtimes.errors import LeadError, NoLog, NoRow, NoText, NoTime
from leadtimes.history import leaders_in
from leadtimes.logs import order_then
from leadtimes.races import Race
from leadtimes.texts import read_book, read_log, show_book, show_log, show_number
from racing import exact_order_then, logs, some_times

LOGS = logs()
ASKED = ("log", "order", "papers", "changed", "leaders", "then 0", "then 7/2", "then -3")
BOOKED = ("book 1000000000", "check 5 ", "by 5 0 ", "check 3 deed 0;deed 0", "by 99 1 deed 0")


def answers(desk):
    """What a desk answers to rows that do nothing; a refusal by its class and field."""
    told = []
    for row in ASKED + BOOKED:
        try:
            told.append(desk.say(row))
        except LeadError as refusal:
            told.append((type(refusal), refusal.args))
    return told


def row_of(deed):
    return show_log([deed])


def desk_of(rows):
    desk = Desk()
    for row in rows:
        desk.say(row)
    return desk


def text_of(words):
    return " ".join(words) if words else "none"


def papers_text(papers):
    return text_of([f"{one}:{other}:{'-' if till is None else show_number(till)}"
                    for one, other, till in papers])


def in_one_line(text):
    return text.replace("\n", ";")


class Case(unittest.TestCase):
    def refuse(self, desk, row, error, field=None):
        kept = answers(desk)
        for turn_of_two in range(2):
            with self.assertRaises(ValueError) as caught:
                desk.say(row)
            self.assertIs(type(caught.exception), error, row)
            if error is NoLog:
                self.assertEqual(caught.exception.at, field)
            if error is NoText:
                self.assertEqual(caught.exception.line, field)
        self.assertEqual(answers(desk), kept, row)

    def check_said(self, desk, pairs):
        for row, told in pairs:
            self.assertEqual(desk.say(row), told, row)


class Answers(Case):
    def test_without_deeds(self):
        self.check_said(Desk(), (
            ("log", ""), ("order", "none"), ("papers", "none"), ("changed", "none | none"),
            ("leaders", "-:-"), ("then 0", "none"), ("then -7/2", "none"), ("book 3", ""),
            ("check 3 ", "yes"), ("check 3 deed 0", "no 0"), ("check 3 pass 1/2 0", "no 0"),
            ("by 3 0 ", "-"), ("by 3 7 ", "-"), ("by 3 0 deed 0", "no"), ("go 5", "none"),
            ("order", "none"), ("papers", "none"), ("log", ""), ("leaders", "-:-")))

    def test_a_race(self):
        self.check_said(Desk(), (
            ("join 0 0 1", "0"), ("order", "0"), ("papers", "none"), ("changed", "none | none"),
            ("join 1/2 5 0", "1"), ("order", "1 0"), ("papers", "1:0:5"),
            ("changed", "none | 1:0:5"), ("leaders", "-:- 0:0 1:1/2 0:5"),
            ("log", "join 0 0 1;join 1/2 5 0"), ("then -1", "none"), ("then 0", "0"),
            ("then 1/2", "1 0"), ("then 5", "0 1"), ("book 5", "deed 0;deed 0;pass 5 0"),
            ("book 9/2", "deed 0;deed 0"), ("check 5 deed 0;deed 0;pass 5 0", "yes"),
            ("check 5 deed 0;deed 0", "no 2"), ("check 9/2 deed 0;deed 0", "yes"),
            ("check 5 deed 0;deed 1;pass 1/2 0;pass 5 0", "yes"), ("check 5 ", "no 0"),
            ("by 5 0 deed 0;deed 0;pass 5 0", "0"), ("by 5 1 deed 0;deed 0;pass 5 0", "1"),
            ("by 5 2 deed 0;deed 0;pass 5 0", "-"), ("by 9/2 0 deed 0;deed 0", "1"),
            ("by 5 0 deed 0;deed 0", "no"), ("by 5 0 ", "no"), ("go 4", "none"),
            ("go 5", "5:1:0"), ("order", "0 1"), ("papers", "0:1:-"),
            ("changed", "none | 1:0:5"), ("turn 7 0 -1/3", "ok"), ("papers", "0:1:13"),
            ("changed", "0:1:- | 0:1:13"), ("join 7 6 -1", "2"), ("order", "0 2 1"),
            ("papers", "0:2:- 2:1:8"), ("changed", "0:1:13 | 0:2:- 2:1:8"),
            ("leave 15/2 2", "ok"), ("changed", "0:2:- 2:1:8 | 0:1:13"), ("leave 8 0", "ok"),
            ("order", "1"), ("papers", "none"), ("changed", "0:1:13 | none"), ("leave 8 1", "ok"),
            ("order", "none"), ("changed", "none | none"), ("go 17/2", "none"),
            ("leaders", "-:- 0:0 1:1/2 0:5 -:8"),
            ("log", "join 0 0 1;join 1/2 5 0;turn 7 0 -1/3;join 7 6 -1;leave 15/2 2;"
                    "leave 8 0;leave 8 1")))

    def test_several_exchanged(self):
        desk = desk_of(["join 0 2 -1", "join 0 1 0", "join 0 0 1"])
        self.assertEqual(desk.say("go 1"), "1:0:1 1:0:2 1:1:2")
        desk = desk_of(["join 0 1 0", "join 0 0 1/3", "join 0 0 2/3"])
        self.assertEqual(desk.say("go 10"), "3/2:0:2 3:0:1")

    def check_all(self, desk, race):
        """All that the desk answers, held against the race and what is told by its log."""
        log = race.log()
        self.check_said(desk, (
            ("log", in_one_line(show_log(log))),
            ("order", text_of([str(runner) for runner in race.order()])),
            ("papers", papers_text(race.papers())),
            ("changed", " | ".join(papers_text(papers) for papers in race.changed())),
            ("leaders", " ".join(
                f"{'-' if runner is None else runner}:{'-' if since is None else show_number(since)}"
                for runner, since in leaders_in(log)))))
        self.assertEqual(read_log(desk.say("log").replace(";", "\n")), log)

    def test_races_deed_by_deed(self):
        for name, log in LOGS.items():
            desk = Desk()
            race = Race()
            for deed in log:
                told = race.do(deed)
                self.assertEqual(desk.say(row_of(deed)), "ok" if told is None else str(told))
                self.check_all(desk, race)
            if log:
                for step in (0, Fraction(1, 2), 30):
                    time = number(fraction(race.time()) + step)
                    steps = text_of([f"{show_number(then)}:{one}:{other}"
                                     for then, one, other in race.go(time)])
                    self.assertEqual(desk.say("go " + show_number(time)), steps, name)
                    self.check_all(desk, race)

    def test_then_at_all_times(self):
        for log in LOGS.values():
            desk = desk_of([row_of(deed) for deed in log])
            for time in some_times(log, 20):
                told = text_of([str(runner) for runner in exact_order_then(log, time)])
                if max(abs(time.numerator), time.denominator) <= SIXTY:
                    self.assertEqual(desk.say("then " + show_number(number(time))), told)

    def test_two_desks_beside_one_another(self):
        one = Desk()
        other = Desk()
        one.say("join 0 0 1")
        self.assertEqual((one.say("order"), other.say("order")), ("0", "none"))
        self.assertEqual(other.say("join 5 0 0"), "0")
        self.assertEqual((one.say("log"), other.say("log")), ("join 0 0 1", "join 5 0 0"))
        other.say("go 99")
        self.assertEqual(one.say("join 1 0 0"), "1")

    def test_asked_again_the_same_is_answered(self):
        for log in LOGS.values():
            desk = desk_of([row_of(deed) for deed in log])
            self.assertEqual(answers(desk), answers(desk))

    def test_arguments_have_their_names(self):
        self.assertEqual(Desk().say(row="order"), "none")


class Books(Case):
    def each(self):
        for log in LOGS.values():
            desk = desk_of([row_of(deed) for deed in log])
            for end in end_times(log):
                yield log, desk, end

    def test_its_own_books_are_let_by(self):
        for log, desk, end in self.each():
            time = show_number(end)
            text = desk.say("book " + time)
            self.assertNotIn("\n", text)
            book = read_book(text.replace(";", "\n"))
            self.assertIsNone(exact_fault(log, end, book))
            self.assertEqual(desk.say(f"check {time} {text}"), "yes")
            order = order_then(log, end)
            for place in range(len(order) + 2):
                told = str(order[place]) if place < len(order) else "-"
                self.assertEqual(desk.say(f"by {time} {place} {text}"), told)

    def test_books_of_ones_own_making(self):
        draw = random.Random(51)
        for log, desk, end in self.each():
            book = drawn_book(draw, log, end)
            self.check_book(log, desk, end, book)
            for turn_of_many in range(6):
                wrong = list(book)
                if book:
                    at = draw.randrange(len(book))
                    wrong = draw.choice([book[:at], book[:at] + book[at + 1:],
                                         book[:at] + [book[at]] + book[at:],
                                         book[:at] + [("deed", draw.randint(0, 3))] + book[at:]])
                self.check_book(log, desk, end, wrong)

    def check_book(self, log, desk, end, book):
        text = in_one_line(show_book(book))
        time = show_number(end)
        told = fault(log, end, book)
        self.assertEqual(told, exact_fault(log, end, book))
        self.assertEqual(desk.say(f"check {time} {text}"), "yes" if told is None else f"no {told}")
        order = order_by(log, book, end) if told is None else []
        self.assertEqual(order, exact_order_then(log, fraction(end)) if told is None else [])
        for place in range(len(order) + 1):
            answer = str(order[place]) if place < len(order) else "-"
            self.assertEqual(desk.say(f"by {time} {place} {text}"),
                             "no" if told is not None else answer)

    def test_a_place_of_sixty_figures(self):
        desk = desk_of(["join 0 0 1"])
        self.assertEqual(desk.say("by 1 " + "9" * 60 + " deed 0"), "-")
        self.assertEqual(desk.say("check 1 deed " + "9" * 60), "no 0")


class Refusals(Case):
    DESKS = ([], ["join 0 0 1", "join 0 5 0", "go 2"],
             ["join 0 0 1", "join 1 3 0", "turn 2 0 -1", "leave 3 1"])

    def each_desk(self, rows, error, field=None):
        for said in self.DESKS:
            desk = desk_of(said)
            for row in rows:
                self.refuse(desk, row, error, field)

    def test_no_text(self):
        self.each_desk([None, True, False, 0, 7, (), ("order",), ["order"], {}, b"order", 1.5,
                        object(), [], Desk()], NoRow)

    def test_another_first_word(self):
        self.each_desk(["", " ", "  ", "hop", "Order", "ORDER", "orders", "orde", "deed 0",
                        "pass 0 0", "time", "none", "-", "0", "do", "say", "joinx 0 0 0",
                        "\u00f6rder", "order\t", "\torder", "order\r", ";", "log;order"], NoRow)

    def test_too_few_and_too_many_words(self):
        rows = ["join", "join 9", "join 9 0", "join 9 0 0 0", "leave", "leave 9", "leave 9 0 0",
                "turn", "turn 9", "turn 9 0", "turn 9 0 0 0", "go", "go 9 9", "log 0", "order 0",
                "then", "then 9 9", "papers 0", "changed 0", "leaders 0", "book", "book 9 9",
                "check", "check 9", "by", "by 9", "by 9 0", "log log", "order none"]
        self.each_desk(rows, NoRow)

    def test_two_blanks_and_blanks_at_an_end(self):
        rows = []
        for row in ("join 9 0 0", "leave 9 0", "turn 9 0 0", "go 9", "then 9", "book 9"):
            rows += [" " + row, row + " ", row.replace(" ", "  ", 1), row + "  "]
            rows.append("  ".join(row.rsplit(" ", 1)))
        for word in ("log", "order", "papers", "changed", "leaders"):
            rows += [" " + word, word + " "]
        rows += [" check 9 ", "check  9 ", "check  ", "check ", " by 9 0 ", "by  9 0 ",
                 "by 9  0 ", "by  ", "by 9  ", "by 9  deed 0", "check  deed 0"]
        self.each_desk(rows, NoRow)

    def test_line_feeds(self):
        rows = ["\n"]
        for row in ("join 9 0 0", "leave 9 0", "go 9", "log", "order", "book 9", "check 9 deed 0",
                    "check 9 ", "by 9 0 ", "by 9 0 deed 0"):
            rows += [row + "\n", "\n" + row, row.replace(" ", "\n", 1), row + "\norder"]
        rows += ["check 9 deed 0\ndeed 0", "check 9 x\ny", "by 9 0 deed 0\n;"]
        self.each_desk([row for row in rows if "\n" in row], NoRow)

    def test_numbers_written_otherwise(self):
        rows = []
        for word in ("+9", "09", "-0", "9.0", "18/2", "9/1", "9/0", "1/-2", "9/", "/9", "--9", "x",
                     "1" * 61, "1/" + "1" * 61, "-" + "1" * 61, "1/2/3", "9;", "\u0669", "1_0"):
            rows += [f"join {word} 0 0", f"join 9 {word} 0", f"join 9 0 {word}",
                     f"leave {word} 0", f"leave 9 {word}", f"turn {word} 0 0", f"turn 9 {word} 0",
                     f"turn 9 0 {word}", f"go {word}", f"then {word}", f"book {word}",
                     f"check {word} ", f"by {word} 0 ", f"by 9 {word} ", f"check {word} deed 0"]
        for word in ("-1", "1/2", "-1/2"):
            rows += [f"leave 9 {word}", f"turn 9 {word} 0", f"by 9 {word} ", f"by 9 {word} deed 0"]
        self.each_desk(rows, NoRow)

    def test_a_text_that_is_none(self):
        for text, line in (("x", 0), (" ", 0), (" deed 0", 0), ("deed 0 ", 0), ("deed  0", 0),
                           ("deed 0;", 1), (";", 0), (";deed 0", 0), ("deed 0;;deed 0", 1),
                           ("deed 0;deed", 1), ("deed 0;deed 0;pass 0", 2), ("deed -1", 0),
                           ("deed 0;pass 2/4 0", 1), ("deed 0;pass 1 01", 1), ("deed 0; deed 0", 1),
                           ("deed " + "1" * 61, 0), ("deed 0|deed 0", 0), ("join 0 0 0", 0),
                           ("deed 0;pass 1 0;deed 1/2", 2), ("deed\t0", 0), ("yes", 0)):
            self.each_desk([f"check 9 {text}", f"by 9 0 {text}", f"by 9 99 {text}",
                            f"check -99 {text}"], NoText, line)

    def test_no_row_goes_ahead_of_no_text(self):
        self.each_desk(["check x x", "by x 0 x", "by 9 x x", "by 9 -1 deed", "check 9/3 deed",
                        "check 9 x\n"], NoRow)

    def test_no_log(self):
        for said in self.DESKS:
            desk = desk_of(said)
            many = len([row for row in said if not row.startswith("go")])
            for row in ("leave 9 5", "turn 9 5 1", "leave 9 " + "9" * 60, "join 1000000000 0 0",
                        "join 9 1000000000 0", "join 9 0 1/13", "join 9 0 -9999999999",
                        "turn 9 0 1/13", "leave 1000000000 0", "leave -1 0", "turn -1/12 7 0",
                        "join " + "9" * 60 + " 0 0"):
                self.refuse(desk, row, NoLog, many)

    def test_eight_runners_and_forty_deeds(self):
        desk = desk_of(["join 0 0 0"] * 8)
        self.refuse(desk, "join 0 0 0", NoLog, 8)
        desk = desk_of(["join 0 0 0"] + ["turn 0 0 1"] * 39)
        self.refuse(desk, "leave 0 0", NoLog, 40)

    def test_no_time(self):
        desk = desk_of(["join 0 0 1", "join 0 5 0", "go 2"])
        for row in ("go 1", "go 23/12", "go -1", "join 1 0 0", "leave 0 0", "turn 23/12 1 0",
                    "book -1", "book -1/" + "9" * 60):
            self.refuse(desk, row, NoTime)
        desk = desk_of(["go 5"])
        for row in ("go 4", "join 4 0 0", "go -" + "9" * 60):
            self.refuse(desk, row, NoTime)
        self.refuse(desk, "leave 4 0", NoLog, 0)

    def test_no_log_goes_ahead_of_no_time(self):
        desk = desk_of(["join 0 0 1", "join 0 5 0", "go 2"])
        for row in ("leave 1 7", "join -1 0 0", "turn 1 0 1/13"):
            self.refuse(desk, row, NoLog, 2)

    def test_what_follows_a_refusal_is_as_without_it(self):
        wrong = ("hop", "join 9 0", "leave 9 77", "go -999999999999", "check 0 x", "order ")
        for log in LOGS.values():
            desk = Desk()
            desk.say("log")
            for deed in log:
                desk.say(row_of(deed))
                for row in wrong:
                    with self.assertRaises(LeadError):
                        desk.say(row)
            self.assertEqual(answers(desk), answers(desk_of([row_of(deed) for deed in log])))

    def test_a_text_empty_and_without_the_blank_ahead_of_it(self):
        desk = Desk()
        self.check_said(desk, (("check 9 ", "yes"), ("by 9 0 ", "-")))
        self.refuse(desk, "check 9", NoRow)
        self.refuse(desk, "by 9 0", NoRow)
        desk.say("join 0 0 0")
        self.check_said(desk, (("check 9 ", "no 0"), ("by 9 0 ", "no")))
        self.refuse(desk, "check 9", NoRow)
        self.refuse(desk, "by 9 0", NoRow)


if __name__ == "__main__":
    unittest.main()
