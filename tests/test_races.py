import copy
import random
import unittest
from fractions import Fraction

from asking import fraction, line, number, spoil
from exact import SIXTY, exact_meetings
from leadtimes.errors import LeadError, NoLog, NoTime
from leadtimes.lines import next_change
from leadtimes.papers import papers_at
from leadtimes.races import Race
from leadtimes.walks import Walk
from racing import (
    exact_lines, exact_order_of, exact_order_then, join, leave, logs, race_times, some_times, turn)

LOGS = logs()


def held(race):
    """All that a race tells."""
    return copy.deepcopy((race.time(), race.order(), race.papers(), race.log(), race.changed()))


def exact_papers(log, time, many=None):
    """The papers at a time of those who run, by the first so many deeds, or those not later."""
    running = exact_lines(log, time) if many is None else exact_lines(log[:many])
    order = exact_order_of(running, time)
    return [(one, other, next_change(running, one, other, number(time)))
            for one, other in zip(order, order[1:])]


class Case(unittest.TestCase):
    def refuse(self, race, error, deed, function=None):
        kept = held(race)
        handed = copy.deepcopy(deed) if isinstance(deed, (list, tuple)) else deed
        for turn_of_two in range(2):
            with self.assertRaises(ValueError) as caught:
                (function or race.do)(deed)
            self.assertIs(type(caught.exception), error)
            if error is NoLog:
                self.assertEqual(caught.exception.at, len(kept[3]))
            self.assertEqual(held(race), kept)
        if isinstance(deed, (list, tuple)):
            self.assertEqual(deed, handed)

    def done(self, log):
        race = Race()
        for deed in log:
            race.do(deed)
        return race


class Deeds(Case):
    def test_at_first(self):
        self.assertEqual(held(Race()), (None, [], [], [], ([], [])))

    def test_deed_by_deed(self):
        for name, log in LOGS.items():
            race = Race()
            joined = 0
            for many, deed in enumerate(log, start=1):
                told = race.do(deed)
                if deed[0] == "join":
                    self.assertEqual((type(told), told), (int, joined))
                    joined += 1
                else:
                    self.assertIsNone(told)
                time = fraction(deed[1])
                self.assertEqual(race.time(), deed[1])
                self.assertEqual(race.log(), log[:many])
                self.assertEqual(race.order(), exact_order_then(log[:many], time), name)
                self.assertEqual(race.papers(), exact_papers(log[:many], time), name)

    def test_told_ones(self):
        race = Race()
        self.assertEqual(race.do(join(0, 0, 1)), 0)
        self.assertEqual(held(race), ((0, 1), [0], [], [join(0, 0, 1)], ([], [])))
        self.assertEqual(race.do(join(1, 5, 0)), 1)
        self.assertEqual((race.time(), race.order(), race.papers()),
                         ((1, 1), [1, 0], [(1, 0, (5, 1))]))
        self.assertEqual(race.go((5, 1)), [((5, 1), 1, 0)])
        self.assertEqual((race.time(), race.order(), race.papers()),
                         ((5, 1), [0, 1], [(0, 1, None)]))
        self.assertIsNone(race.do(turn(7, 0, -1)))
        self.assertEqual(race.papers(), [(0, 1, (9, 1))])
        self.assertIsNone(race.do(leave(8, 0)))
        self.assertEqual((race.order(), race.papers()), ([1], []))
        self.assertEqual(race.do(join(8, 9, 0)), 2)
        self.assertEqual((race.order(), race.papers()), ([2, 1], [(2, 1, None)]))

    def test_a_turn_away_from_many_on_one_place_mends_the_order(self):
        race = self.done([join(0, 0, 0), join(0, 0, 1), join(0, 0, 2)])
        self.assertEqual(race.order(), [2, 1, 0])
        race.do(turn(0, 2, -1))
        self.assertEqual(race.order(), [1, 0, 2])

    def test_arguments_have_their_names(self):
        race = Race()
        self.assertEqual(race.do(deed=join(0, 0, 0)), 0)
        self.assertEqual(race.go(time=(1, 1)), [])


class Going(Case):
    def check_go(self, race, time):
        log = race.log()
        since = race.time()
        running = exact_lines(log)
        runners = sorted(running)
        order = race.order()
        told = race.go(number(time))
        walk = Walk([running[runner] for runner in runners], since)
        self.assertEqual(told, [(then, runners[one], runners[other])
                                for then, one, other in walk.go(number(time))])
        for then, one, other in told:
            at = order.index(one)
            self.assertEqual(order[at + 1], other)
            order[at], order[at + 1] = other, one
        self.assertEqual(order, race.order())
        self.assertEqual(race.time(), number(time))
        self.assertEqual(race.order(), exact_order_then(log, time))
        self.assertEqual(race.papers(), exact_papers(log, time))
        self.assertEqual(race.log(), log)

    def test_between_the_deeds_and_behind(self):
        for name, log in LOGS.items():
            race = Race()
            for at, deed in enumerate(log):
                race.do(deed)
                end = fraction(log[at + 1][1]) if at + 1 < len(log) else None
                times = [time for time in some_times(log, 25)
                         if time >= fraction(deed[1]) and (end is None or time <= end)]
                for time in times:
                    with self.subTest(name, at=at, time=time):
                        self.check_go(race, time)

    def test_in_one_go_or_by_many_the_same(self):
        for log in LOGS.values():
            one = self.done(log)
            other = self.done(log)
            told = []
            late = [time for time in race_times(log)
                    if not log or time >= fraction(log[-1][1])]
            for time in late:
                told += other.go(number(time))
            start = [] if log else one.go(number(late[0]))
            self.assertEqual(start + one.go(number(late[-1])), told)
            self.assertEqual(held(one), held(other))

    def test_a_race_without_a_time(self):
        for time in ((0, 1), (-SIXTY, 1), (7, 2)):
            race = Race()
            self.assertEqual(race.go(time), [])
            self.assertEqual(held(race), (time, [], [], [], ([], [])))
            self.assertEqual(race.go(time), [])

    def test_the_numbers_are_those_of_the_race(self):
        race = self.done([join(0, 0, 0), join(0, 5, 0), join(0, 3, 1), leave(0, 0), leave(0, 1),
                          join(0, 10, -1), join(0, 20, 0)])
        self.assertEqual(race.order(), [4, 3, 2])
        self.assertEqual(race.go((9, 1)), [((7, 2), 3, 2)])
        self.assertEqual(race.order(), [4, 2, 3])
        self.assertEqual(race.go((17, 1)), [((17, 1), 4, 2)])

    def test_what_is_exchanged_on_the_way_to_a_deed_is_not_told(self):
        race = self.done([join(0, 0, 1), join(0, 1, 0)])
        self.assertEqual(race.do(join(5, 0, 0)), 2)
        self.assertEqual(race.order(), [0, 1, 2])
        self.assertEqual(race.go((5, 1)), [])


class Refusals(Case):
    def test_no_log(self):
        for log in ([], [join(0, 0, 0)], [join(0, 0, 0), join(1, 1, 1), leave(2, 0)]):
            race = self.done(log)
            for deed in (None, True, 0, "join", (), [], {}, ("join",), leave(9, 0)[:2], leave(9, 7),
                         list(join(9, 0, 0)), turn(9, -1, 0), join(9, 0, 0) + (1,),
                         ("join", (10 ** 9, 1), (0, 1), (0, 1)), ("join", (1, 13), (0, 1), (0, 1)),
                         ("leave", (9, 1), True), ("hop", (9, 1), 1), 1.5, b"", {1: 2}, object()):
                self.refuse(race, NoLog, deed)

    def test_earlier_than_the_last_deed_is_no_log(self):
        race = self.done([join(5, 0, 0)])
        race.go((9, 1))
        self.refuse(race, NoLog, join(4, 0, 0))
        self.refuse(race, NoLog, leave(Fraction(49, 10), 0))

    def test_a_ninth_runner_and_a_forty_first_deed(self):
        race = self.done([join(0, at, 0) for at in range(8)])
        self.refuse(race, NoLog, join(1, 0, 0))
        race = self.done(LOGS["forty"])
        self.refuse(race, NoLog, turn(99, 0, 1))
        self.refuse(race, NoLog, leave(99, 0))

    def test_earlier_than_the_races_time(self):
        race = self.done([join(5, 0, 0)])
        race.go((9, 1))
        for deed in (join(5, 0, 0), join(Fraction(89, 10), 0, 0), leave(8, 0), turn(7, 0, 1)):
            self.refuse(race, NoTime, deed)
        self.assertEqual(race.do(join(9, 0, 0)), 1)

    def test_no_log_goes_first(self):
        race = self.done([join(5, 0, 0)])
        race.go((9, 1))
        for deed in (leave(8, 1), ("hop", (8, 1)), join(4, 0, 0), turn(6, -1, 0)):
            self.refuse(race, NoLog, deed)

    def test_a_race_that_went_ahead_of_its_first_deed(self):
        race = Race()
        race.go((3, 1))
        self.refuse(race, NoTime, join(2, 0, 0))
        self.refuse(race, NoLog, leave(2, 0))
        self.assertEqual(race.do(join(3, 0, 0)), 0)

    def test_a_go_to_an_earlier_time(self):
        for name, log in LOGS.items():
            race = self.done(log)
            if not log:
                race.go((0, 1))
            for turn_of_two in range(2):
                early = fraction(race.time())
                for time in (early - Fraction(1, SIXTY), early - 1, -Fraction(10 ** 70)):
                    self.refuse(race, NoTime, number(time), race.go)
                race.go(number(early + 5))

    def test_what_follows_a_refusal_is_as_without_it(self):
        for log in LOGS.values():
            race = Race()
            for deed in log:
                for wrong in (None, ("join",), leave(TOP_TIME, 77)):
                    self.refuse(race, NoLog, wrong)
                race.do(deed)
            self.assertEqual(held(race), held(self.done(log)))

    def test_they_are_lead_errors(self):
        with self.assertRaises(LeadError):
            Race().do(None)
        race = Race()
        race.go((0, 1))
        with self.assertRaises(LeadError):
            race.go((-1, 1))


TOP_TIME = 999999999


class Changed(Case):
    def exact(self, log, many):
        """What the deed ahead of which there were so many changed."""
        time = fraction(log[many][1])
        before = exact_papers(log, time, many) if many else []
        after = exact_papers(log, time, many + 1)
        return ([paper for paper in before if paper not in after],
                [paper for paper in after if paper not in before])

    def test_behind_each_deed(self):
        for name, log in LOGS.items():
            race = Race()
            for many, deed in enumerate(log):
                race.do(deed)
                exact = self.exact(log, many)
                self.assertEqual(race.changed(), exact, name)
                self.assertEqual((type(race.changed()), type(race.changed()[0])), (tuple, list))

    def test_behind_a_go_and_a_refused_deed_as_before(self):
        for log in LOGS.values():
            race = Race()
            for many, deed in enumerate(log):
                race.do(deed)
                if many + 1 < len(log):
                    race.go(log[many + 1][1])
                self.refuse(race, NoLog, None)
                self.assertEqual(race.changed(), self.exact(log, many))

    def test_a_deed_at_the_end_of_a_go_or_right_behind_another_is_the_same(self):
        for log in LOGS.values():
            race = Race()
            for many, deed in enumerate(log):
                race.go(deed[1])
                race.do(deed)
                self.assertEqual(race.changed(), self.exact(log, many))

    def test_told_ones(self):
        race = Race()
        race.do(join(0, 0, 0))
        self.assertEqual(race.changed(), ([], []))
        race.do(join(0, 10, 0))
        self.assertEqual(race.changed(), ([], [(1, 0, None)]))
        race.do(join(0, 5, 1))
        self.assertEqual(race.changed(), ([(1, 0, None)], [(1, 2, (5, 1)), (2, 0, None)]))
        race.do(turn(1, 2, -1))
        self.assertEqual(race.changed(), ([(1, 2, (5, 1)), (2, 0, None)],
                                          [(1, 2, None), (2, 0, (7, 1))]))
        race.do(turn(2, 2, -1))
        self.assertEqual(race.changed(), ([], []))
        race.do(leave(3, 2))
        self.assertEqual(race.changed(), ([(1, 2, None), (2, 0, (7, 1))], [(1, 0, None)]))

    def test_the_papers_ahead_of_the_deed_are_those_at_its_time(self):
        # At 5 the two have changed already when the third one joins.
        race = self.done([join(0, 0, 1), join(0, 5, 0)])
        race.do(join(5, 0, 0))
        self.assertEqual(race.changed(), ([], [(1, 2, None)]))

    def test_level_with_somebody(self):
        race = self.done([join(0, 0, 0), join(0, 0, 1), join(0, 0, 2)])
        race.do(turn(0, 2, -1))
        self.assertEqual(race.changed(), ([(2, 1, None)], [(0, 2, None)]))

    def test_level_with_nobody_the_papers_are_the_runners_own(self):
        for log in LOGS.values():
            race = Race()
            for many, deed in enumerate(log):
                time = fraction(deed[1])
                told = race.do(deed)
                runner = told if deed[0] == "join" else deed[2]
                lines = exact_lines(log[:many + 1])
                if deed[0] == "leave":
                    lines = exact_lines(log[:many])
                own = lines[runner]
                level = [other for other in lines if other != runner and (
                    lines[other] == own or time in exact_meetings([own, lines[other]]))]
                others = [paper for paper in race.changed()[0] + race.changed()[1]
                          if runner not in paper[:2]]
                if not level:
                    self.assertLessEqual(len(others), 0 if deed[0] == "turn" else 1)


class Kept(Case):
    def test_what_is_told_is_the_askers_own(self):
        for log in LOGS.values():
            race = Race()
            for deed in log:
                race.do(deed)
                kept = held(race)
                told = (race.order(), race.papers(), race.log(), race.changed())
                spoil(told)
                self.assertEqual(held(race), kept)
                before = (race.order(), race.papers(), race.log(), race.changed())
                copied = copy.deepcopy(before)
                spoil(race.go(race.time()))
                self.assertEqual(held(race), kept)
                self.assertEqual(before, copied)

    def test_two_beside_one_another(self):
        one = self.done(LOGS["eight"])
        other = Race()
        self.assertEqual(held(other), (None, [], [], [], ([], [])))
        kept = held(one)
        other.do(join(0, 0, 0))
        other.go((5, 1))
        self.assertEqual(held(one), kept)

    def test_papers_of_a_race_are_those_of_its_lines(self):
        race = self.done([join(0, 0, 1), join(0, 9, -2), join(0, 3, 0)])
        lines = [line(0, 1), line(9, -2), line(3, 0)]
        draw = random.Random(3)
        time = Fraction(0)
        for turn_of_many in range(12):
            time += Fraction(draw.randint(0, 3), 4)
            race.go(number(time))
            self.assertEqual(race.papers(), papers_at(lines, number(time)))


if __name__ == "__main__":
    unittest.main()
