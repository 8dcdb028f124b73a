import copy
import unittest
from fractions import Fraction

from asking import ask, line, number, spoil
from exact import SIXTY
from leadtimes.errors import LeadError, NoLog
from leadtimes.lines import line_through, place_at
from leadtimes.logs import line_then, log_of, order_then, runners_then
from racing import (
    TOP, exact_lines, exact_order_then, join, leave, logs, race_times, some_times, turn)

LOGS = logs()


class Odd:
    """A thing that is like nothing else."""


class LikeAll:
    """A thing that says it is equal to whatever it is held against."""

    def __eq__(self, other):
        return True

    __hash__ = object.__hash__


class Case(unittest.TestCase):
    def refuse(self, thing, at):
        for turn_of_two in range(2):
            with self.assertRaises(ValueError) as caught:
                log_of(thing)
            self.assertIs(type(caught.exception), NoLog)
            self.assertEqual((type(caught.exception.at), caught.exception.at), (int, at))


class Good(Case):
    def test_a_log_is_told_as_a_new_list(self):
        for name, log in LOGS.items():
            told = ask(self, log_of, log)
            self.assertEqual((type(told), told), (list, log), name)
            self.assertIsNot(told, log)
            self.assertEqual(log_of(told), log)

    def test_each_beginning_of_a_log_is_one(self):
        for log in LOGS.values():
            for many in range(len(log)):
                self.assertEqual(log_of(log[:many]), log[:many])

    def test_the_greatest_numbers(self):
        for value in (TOP, -TOP, Fraction(TOP, 11), Fraction(-TOP, 12 - 1), Fraction(7, 12)):
            for deed in (join(value, 0, 0), join(0, value, 0), join(0, 0, value)):
                self.assertEqual(log_of([deed]), [deed])
            log = [join(-TOP, 0, 0), turn(0, 0, value)]
            self.assertEqual(log_of(log), log)

    def test_forty_deeds_and_eight_at_once(self):
        self.assertEqual(len(log_of(LOGS["forty"])), 40)
        self.assertEqual(len(log_of([join(0, 0, 0)] * 8)), 8)
        log = [join(0, 0, 0)] * 8 + [leave(0, 7), join(0, 0, 0), leave(0, 8), join(0, 0, 0)]
        self.assertEqual(log_of(log), log)

    def test_more_than_eight_one_after_another(self):
        log = []
        for runner in range(20):
            log += [join(runner, 0, 0), leave(runner, runner)]
        self.assertEqual(log_of(log), log)

    def test_arguments_have_their_names(self):
        self.assertEqual(log_of(thing=[]), [])


class NoList(Case):
    def test_things_of_whatever_kind(self):
        deed = join(0, 0, 0)
        for thing in (None, True, False, 0, 1, -1, SIXTY, "", "join", "join 0 0 0", (), (deed,),
                      deed, {}, {0: deed}, {"join": 1}, 1.5, float("nan"), b"", {1}, frozenset(),
                      range(0), len, list, Odd, Odd(), iter([deed]), Fraction(1, 2), 1j):
            self.refuse(thing, 0)

    def test_it_is_a_lead_error(self):
        with self.assertRaises(LeadError):
            log_of(None)


class Wrong(Case):
    GOOD = [join(0, 0, 0), join(1, 0, 0), leave(2, 0), join(3, 5, 1)]

    def refuse_each(self, deeds, time_of_good=0):
        """Each deed refused as the first one, and behind good ones."""
        for deed in deeds:
            self.refuse([deed], 0)
            self.refuse(self.GOOD + [deed], 4)
            self.refuse(self.GOOD + [deed, deed], 4)
            self.refuse(self.GOOD + [deed, join(9, 0, 0)], 4)
            self.refuse(self.GOOD[:2] + [deed] + self.GOOD[2:], 2)

    def test_no_tuple(self):
        self.refuse_each([None, True, 0, "", "join", [], list(join(9, 0, 0)), {}, 1.5, Odd(),
                          {"join": 1}, b"join", [join(9, 0, 0)], range(4)])

    def test_too_short_and_too_long(self):
        self.refuse_each([(), ("join",), ("leave",), ("turn",), join(9, 0, 0)[:3],
                          join(9, 0, 0)[:2], join(9, 0, 0) + ((0, 1),), leave(9, 1)[:2],
                          leave(9, 1) + (1,), leave(9, 1) + ((0, 1),), turn(9, 1, 1)[:3],
                          turn(9, 1, 1)[:2], turn(9, 1, 1) + ((0, 1),), turn(9, 1, 1) + (None,)])

    def test_another_word_and_no_text_as_word(self):
        for word in ("", "JOIN", "Join", "join ", " join", "joins", "pass", "deed", None, 0, True,
                     ("join",), ["join"], b"join", 1.5, Odd(), LikeAll(), {}):
            for deed in (join(9, 0, 0), leave(9, 1), turn(9, 1, 1)):
                self.refuse_each([(word,) + deed[1:]])

    def test_the_words_of_other_deeds(self):
        self.refuse_each([("join", (9, 1), 1), ("join", (9, 1), 1, (1, 1)), ("leave",) +
                          join(9, 0, 0)[1:], ("turn",) + join(9, 0, 0)[1:], ("turn", (9, 1), 1),
                          ("leave", (9, 1), 1, (1, 1)), ("leave", (9, 1), (1, 1))])

    def no_numbers(self):
        return [None, True, False, 0, 1, 9, "", "9", "9/1", (), (9,), (9, 1, 1), [9, 1], {}, 9.0,
                Odd(), Fraction(9), b"9",
                (18, 2), (0, 2), (9, 0), (9, -1), (-9, -1), (SIXTY, 3),
                (TOP + 1, 1), (-TOP - 1, 1), (10 ** 9 + 1, 7), (SIXTY, 1), (-SIXTY, 1),
                (118, 13), (9, 13), (1, 100), (1, SIXTY), (-1, 14),
                (True, 1), (9, True), (False, 1), (True, True), (9.0, 1), (9, 1.0), ("9", 1),
                (9, None), (None, None), ((9, 1), (1, 1)), LikeAll(), (LikeAll(), LikeAll())]

    def test_a_time_that_is_no_such_number(self):
        for value in self.no_numbers():
            self.refuse_each([("join", value, (0, 1), (0, 1)), ("leave", value, 1),
                              ("turn", value, 1, (0, 1))])

    def test_a_place_or_slope_that_is_no_such_number(self):
        for value in self.no_numbers():
            self.refuse_each([("join", (9, 1), value, (0, 1)), ("join", (9, 1), (0, 1), value),
                              ("turn", (9, 1), 1, value)])

    def test_a_runner_that_does_not_run(self):
        # Behind the good ones run 1 and 2; 0 has left.
        for runner in (0, 3, 4, 8, 100, SIXTY, -1, -2, -3, -SIXTY):
            self.refuse([*self.GOOD, leave(9, runner)], 4)
            self.refuse([*self.GOOD, turn(9, runner, 1)], 4)
        for runner in (1, 2):
            self.assertEqual(len(log_of([*self.GOOD, leave(9, runner), join(9, 1, 1)])), 6)
            self.refuse([*self.GOOD, leave(9, runner), leave(9, runner)], 5)
            self.refuse([*self.GOOD, leave(9, runner), turn(9, runner, 0)], 5)
        self.refuse([leave(0, 0)], 0)
        self.refuse([turn(0, 0, 1)], 0)

    def test_a_runner_that_is_no_whole_number(self):
        for runner in (None, True, False, "1", "", (1, 1), (1,), [1], 1.0, {}, Odd(), b"1",
                       Fraction(1), LikeAll()):
            self.refuse([*self.GOOD, leave(9, runner)], 4)
            self.refuse([*self.GOOD, turn(9, runner, 1)], 4)

    def test_a_time_earlier_than_the_deed_ahead(self):
        for deed in (join(Fraction(29, 10), 0, 0), join(Fraction(35, 12), 0, 0), leave(2, 1),
                     turn(-TOP, 1, 1), turn(Fraction(5, 2), 2, 0)):
            self.refuse([*self.GOOD, deed], 4)
            self.refuse([*self.GOOD, deed, deed], 4)
        for deed in (join(3, 0, 0), leave(3, 1), turn(3, 2, 1)):
            self.assertEqual(len(log_of([*self.GOOD, deed])), 5)

    def test_a_ninth_runner(self):
        eight = [join(at, at, at) for at in range(8)]
        self.refuse(eight + [join(8, 0, 0)], 8)
        self.refuse(eight + [leave(8, 0), join(8, 0, 0), join(8, 0, 0)], 10)
        self.refuse(eight + [turn(8, 0, 0), join(8, 0, 0), leave(9, 1)], 9)

    def test_a_forty_first_deed(self):
        forty = LOGS["forty"]
        for deed in (turn(50, 0, 1), None, "x", leave(0, 7), join(50, 0, 0)):
            self.refuse(forty + [deed], 40)
            self.refuse(forty + [deed] * 30, 40)
        self.refuse(forty[:20] + [None] + forty[20:], 20)
        self.refuse(forty[:39] + [turn(0, 0, 1)] + [forty[39]], 39)
        self.refuse([join(0, 0, 0)] + [turn(0, 0, 0)] * 1999, 40)

    def test_of_several_wrong_deeds_the_first(self):
        self.refuse(self.GOOD + [leave(9, 0), None], 4)
        self.refuse([None, leave(9, 0)], 0)
        self.refuse([join(0, 0, 0), leave(0, 1), join(-1, 0, 0)], 1)

    def test_nothing_is_changed(self):
        log = self.GOOD + [leave(9, 0), ["join"]]
        kept = copy.deepcopy(log)
        self.refuse(log, 4)
        self.assertEqual(log, kept)


class Then(unittest.TestCase):
    def check(self, log, time):
        running = exact_lines(log, time)
        told = number(time)
        self.assertEqual(ask(self, runners_then, log, told), sorted(running))
        self.assertEqual(ask(self, order_then, log, told), exact_order_then(log, time))
        for runner in range(-2, len(log) + 2):
            self.assertEqual(line_then(log, runner, told), running.get(runner))

    def test_at_all_times(self):
        for name, log in LOGS.items():
            for time in some_times(log, 40):
                with self.subTest(name, time=time):
                    self.check(log, time)

    def test_ahead_of_all_deeds(self):
        for log in LOGS.values():
            for time in ((-SIXTY, 1), number(race_times(log)[0] - 1)):
                self.assertEqual(runners_then(log, time), [])
                self.assertEqual(order_then(log, time), [])
                self.assertIsNone(line_then(log, 0, time))

    def test_no_deeds(self):
        self.assertEqual(runners_then([], (0, 1)), [])
        self.assertEqual(order_then([], (0, 1)), [])
        self.assertIsNone(line_then([], 0, (0, 1)))

    def test_a_runner_that_turns_more_than_once_and_leaves(self):
        log = [join(1, 10, 2), turn(3, 0, -1), turn(3, 0, 5), turn(4, 0, 0), leave(6, 0)]
        for time, told in (((0, 1), None), ((1, 1), line(8, 2)), ((2, 1), line(8, 2)),
                           ((299, 100), line(8, 2)), ((3, 1), line(-1, 5)), ((7, 2), line(-1, 5)),
                           ((4, 1), line(19, 0)), ((599, 100), line(19, 0)), ((6, 1), None),
                           ((7, 1), None)):
            self.assertEqual(ask(self, line_then, log, 0, time), told)
            self.assertEqual(runners_then(log, time), [] if told is None else [0])

    def test_a_turn_keeps_the_place_come_to(self):
        for log in LOGS.values():
            for at, deed in enumerate(log):
                if deed[0] == "turn" and (at + 1 == len(log) or log[at + 1][1] != deed[1]):
                    before = line_then(log[:at], deed[2], deed[1])
                    place = place_at(before, deed[1])
                    told = line_then(log, deed[2], deed[1])
                    self.assertEqual(told, line_through(deed[1], place, deed[3]))

    def test_numbers_that_nobody_has(self):
        log = LOGS["nobody left"]
        for runner in (-1, -2, 2, 3, 40, SIXTY, -SIXTY):
            for time in ((-3, 1), (-1, 1), (5, 1), (9, 1)):
                self.assertIsNone(ask(self, line_then, log, runner, time))

    def test_runners_rising_and_alike_ones_by_number(self):
        log = [join(0, 0, 0), join(0, 9, 0), leave(0, 0), join(0, 9, 0), join(0, 9, 0)]
        self.assertEqual(runners_then(log, (0, 1)), [1, 2, 3])
        self.assertEqual(order_then(log, (0, 1)), [1, 2, 3])
        self.assertEqual(order_then(log + [leave(1, 1), join(1, 9, 1)], (1, 1)), [4, 2, 3])

    def test_what_is_done_later_changes_nothing_told(self):
        log = list(LOGS["eight, others come"])
        told = (runners_then(log, (9, 1)), order_then(log, (9, 1)), log_of(log))
        kept = copy.deepcopy(told)
        spoil([runners_then(log, (9, 1)), order_then(log, (9, 1)), log_of(log)])
        spoil(log)
        self.assertEqual(told, kept)

    def test_arguments_have_their_names(self):
        log = [join(0, 1, 2)]
        self.assertEqual(runners_then(time=(0, 1), log=log), [0])
        self.assertEqual(order_then(time=(0, 1), log=log), [0])
        self.assertEqual(line_then(time=(0, 1), runner=0, log=log), line(1, 2))


if __name__ == "__main__":
    unittest.main()
