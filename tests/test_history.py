import copy
import unittest

from asking import ask, fraction, number, spoil
from exact import times_about
from leadtimes.history import leaders_in
from leadtimes.leaders import leader_by
from leadtimes.numbers import is_number
from racing import exact_order_then, join, leave, logs, race_times, some_times, turn

LOGS = logs()


def exact_row(log):
    """The row, by asking for the first of the order at each time at which it may change."""
    row = [(None, None)]
    for time in race_times(log):
        order = exact_order_then(log, time)
        leader = order[0] if order else None
        if leader != row[-1][0]:
            row.append((leader, number(time)))
    return row


class Rows(unittest.TestCase):
    def test_the_row_made_otherwise(self):
        for name, log in LOGS.items():
            self.assertEqual(ask(self, leaders_in, log), exact_row(log), name)

    def test_form(self):
        for name, log in LOGS.items():
            row = leaders_in(log)
            self.assertEqual((type(row), row[0]), (list, (None, None)), name)
            self.assertEqual([type(stretch) for stretch in row], [tuple] * len(row))
            self.assertEqual([is_number(since) for runner, since in row],
                             [False] + [True] * (len(row) - 1))
            sinces = [fraction(since) for runner, since in row[1:]]
            self.assertEqual(sinces, sorted(set(sinces)))
            for one, other in zip(row, row[1:]):
                self.assertNotEqual(one[0], other[0])

    def test_the_first_of_the_order_at_all_times(self):
        for name, log in LOGS.items():
            row = leaders_in(log)
            marks = [fraction(since) for runner, since in row[1:]]
            for time in times_about(marks) + some_times(log, 40):
                order = exact_order_then(log, time)
                self.assertEqual(leader_by(row, number(time)), order[0] if order else None, name)

    def test_told_ones(self):
        for log, row in (
                ([], []),
                ([join(3, 1, 2)], [(0, (3, 1))]),
                ([join(0, 0, 1), join(1, 5, 0)], [(0, (0, 1)), (1, (1, 1)), (0, (5, 1))]),
                # One joins behind, and one level with the leader, but no steeper.
                ([join(0, 0, 1), join(1, 0, 0), join(1, 1, 1)], [(0, (0, 1))]),
                ([join(0, 0, 0), leave(2, 0)], [(0, (0, 1)), (None, (2, 1))]),
                ([join(0, 0, 0), leave(0, 0)], []),
                ([join(0, 0, 0), leave(2, 0), join(2, 7, 7)], [(0, (0, 1)), (1, (2, 1))]),
                ([join(0, 0, 0), leave(2, 0), join(3, 7, 7)],
                 [(0, (0, 1)), (None, (2, 1)), (1, (3, 1))]),
                ([join(0, 0, 0), join(0, 5, 0), leave(1, 0)], [(1, (0, 1))]),
                ([join(0, 0, 0), join(0, 5, 0), leave(1, 1)], [(1, (0, 1)), (0, (1, 1))]),
                # The leader turns back and is passed; the turn itself changes nothing.
                ([join(0, 5, 0), join(0, 0, 0), turn(1, 0, -1)], [(0, (0, 1)), (1, (6, 1))]),
                # At the meeting itself the leader to be turns, level with the other one.
                ([join(0, 0, 1), join(0, 2, 0), turn(2, 0, -1)], [(1, (0, 1))]),
                ([join(0, 0, 1), join(0, 2, 0), leave(2, 0)], [(1, (0, 1))]),
                ([join(0, 0, 1), join(0, 2, 0), leave(3, 0)],
                 [(1, (0, 1)), (0, (2, 1)), (1, (3, 1))]),
                # Three deeds of one time, of which only what is left counts.
                ([join(0, 0, 0), join(1, 9, 9), leave(1, 1)], [(0, (0, 1))])):
            self.assertEqual(ask(self, leaders_in, log), [(None, None)] + row)

    def test_what_is_done_later_changes_nothing_told(self):
        log = list(LOGS["nobody left"])
        row = leaders_in(log)
        kept = copy.deepcopy(row)
        spoil(leaders_in(log))
        spoil(log)
        self.assertEqual(row, kept)

    def test_arguments_have_their_names(self):
        self.assertEqual(leaders_in(log=[]), [(None, None)])


if __name__ == "__main__":
    unittest.main()
