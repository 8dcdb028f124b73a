import random
import unittest

from asking import fraction, number, refused, spoil
from exact import SIXTY
from leadtimes.errors import LeadError, NoKey
from leadtimes.waiting import Waiting


def place_in_order(pair):
    return (fraction(pair[0]), pair[1])


def flat(shape):
    return [] if shape is None else [shape[0]] + flat(shape[1]) + flat(shape[2])


def way_to_the_right(shape):
    many = 0
    while shape is not None:
        many += 1
        shape = shape[2]
    return many


def held(waiting):
    """All that a waiting list tells."""
    return (waiting.first(), waiting.many(), waiting.pairs(), waiting.shape())


class Case(unittest.TestCase):
    def check_shape(self, shape):
        """Holds the shape's rules; tells how many pairs it has."""
        if shape is None:
            return 0
        self.assertEqual((type(shape), len(shape)), (tuple, 3))
        many = 1
        for beneath in shape[1:]:
            many += self.check_shape(beneath)
            for pair in flat(beneath):
                self.assertGreaterEqual(place_in_order(pair), place_in_order(shape[0]))
        self.assertLessEqual(2 ** way_to_the_right(shape), many + 1)
        return many

    def check(self, waiting, pairs):
        exact = sorted(pairs, key=place_in_order)
        self.assertEqual(waiting.first(), exact[0] if exact else None)
        self.assertEqual(waiting.many(), len(exact))
        self.assertEqual(waiting.pairs(), exact)
        self.check_shape(waiting.shape())
        self.assertEqual(sorted(flat(waiting.shape()), key=place_in_order), exact)
        self.assertEqual(waiting.shape() is None, not exact)

    def filled(self, pairs):
        waiting = Waiting()
        for at, (time, key) in enumerate(pairs):
            self.assertIsNone(waiting.put(time, key))
            if at < 40 or at % 37 == 0:
                self.check(waiting, pairs[:at + 1])
        return waiting


class Pairs(Case):
    def test_without_pairs(self):
        self.assertEqual(held(Waiting()), (None, 0, [], None))

    def test_by_time_then_by_key(self):
        pairs = [((1, 2), (0, 1)), ((1, 3), (5, 5)), ((1, 2), (0, -1)), ((1, 2), (-1, 9)),
                 ((-7, 2), (3, 3)), ((1, 2), (0, 2)), ((2, 5), (0, 0)), ((10, 1), (-4, -4))]
        waiting = self.filled(pairs)
        self.assertEqual(waiting.pairs(), [
            ((-7, 2), (3, 3)), ((1, 3), (5, 5)), ((2, 5), (0, 0)), ((1, 2), (-1, 9)),
            ((1, 2), (0, -1)), ((1, 2), (0, 1)), ((1, 2), (0, 2)), ((10, 1), (-4, -4))])
        self.assertEqual(waiting.first(), ((-7, 2), (3, 3)))

    def test_times_of_many_figures(self):
        times = [(SIXTY, SIXTY - 1), (SIXTY - 1, SIXTY), (1, 1), (-1, SIXTY), (-1, SIXTY - 1)]
        self.filled([(time, (SIXTY, -SIXTY)) for time in times])

    def test_each_pair_taken_out_alone(self):
        pairs = [(number(at % 5, 3), (at, -at)) for at in range(17)]
        for gone in range(len(pairs)):
            waiting = self.filled(pairs)
            self.assertIsNone(waiting.take(pairs[gone][0], pairs[gone][1]))
            self.check(waiting, pairs[:gone] + pairs[gone + 1:])

    def test_put_in_again_when_taken_out(self):
        waiting = Waiting()
        for turn in range(3):
            waiting.put((1, 2), (3, 4))
            self.assertEqual(waiting.first(), ((1, 2), (3, 4)))
            waiting.take((1, 2), (3, 4))
            self.assertEqual(held(waiting), (None, 0, [], None))

    def test_two_beside_one_another(self):
        one = Waiting()
        other = Waiting()
        one.put((1, 1), (0, 1))
        other.put((2, 1), (0, 1))
        self.assertEqual((one.pairs(), other.pairs()), ([((1, 1), (0, 1))], [((2, 1), (0, 1))]))
        other.put((1, 1), (0, 1))
        one.take((1, 1), (0, 1))
        self.assertEqual((one.many(), other.many()), (0, 2))

    def test_equal_deeds_tell_equal_things(self):
        draw = random.Random(5)
        pairs = [(number(draw.randint(-9, 9), 4), (at, 0)) for at in range(40)]
        self.assertEqual(held(self.filled(pairs)), held(self.filled(pairs)))
        waiting = self.filled(pairs)
        self.assertEqual(held(waiting), held(waiting))

    def test_what_is_told_is_the_askers_own(self):
        waiting = self.filled([(number(at), (at, at)) for at in range(9)])
        kept = held(waiting)
        told = held(waiting)
        spoil(told)
        self.assertEqual(held(waiting), kept)
        told = waiting.pairs()
        waiting.put((1, 7), (0, 0))
        self.assertEqual(told, kept[2])

    def test_arguments_have_their_names(self):
        waiting = Waiting()
        waiting.put(key=(1, 2), time=(3, 4))
        self.assertEqual(waiting.first(), ((3, 4), (1, 2)))
        waiting.take(key=(1, 2), time=(3, 4))
        self.assertEqual(waiting.many(), 0)


class Refusals(Case):
    def test_a_pair_put_in_twice(self):
        pairs = [(number(at // 2), (at % 2, 0)) for at in range(12)]
        waiting = self.filled(pairs)
        kept = held(waiting)
        for time, key in pairs:
            refused(self, NoKey, waiting.put, time, key)
            self.assertEqual(held(waiting), kept)

    def test_a_pair_taken_out_that_is_not_there(self):
        waiting = self.filled([((1, 2), (0, 1)), ((1, 2), (1, 0)), ((2, 1), (0, 1))])
        kept = held(waiting)
        for time, key in (((1, 2), (0, 0)), ((1, 2), (1, 1)), ((1, 1), (0, 1)), ((3, 1), (0, 1)),
                          ((-1, 2), (0, 1)), ((2, 1), (1, 0)), ((1, 2), (2, 0))):
            refused(self, NoKey, waiting.take, time, key)
            self.assertEqual(held(waiting), kept)

    def test_taken_out_twice_and_out_of_none(self):
        waiting = Waiting()
        refused(self, NoKey, waiting.take, (0, 1), (0, 0))
        waiting.put((0, 1), (0, 0))
        waiting.take((0, 1), (0, 0))
        refused(self, NoKey, waiting.take, (0, 1), (0, 0))
        self.assertEqual(held(waiting), (None, 0, [], None))

    def test_it_is_a_lead_error(self):
        with self.assertRaises(LeadError):
            Waiting().take((0, 1), (0, 0))


class Shapes(Case):
    def times(self):
        draw = random.Random(11)
        many = 300
        return {
            "rising": [number(at, 3) for at in range(many)],
            "falling": [number(-at, 7) for at in range(many)],
            "alike": [(1, 3)] * many,
            "drawn": [number(draw.randint(-40, 40), draw.randint(1, 5)) for at in range(many)],
        }

    def test_put_in_one_by_one(self):
        for times in self.times().values():
            self.filled([(time, (at * 7 % 300, -at)) for at, time in enumerate(times)])

    def empty(self, waiting, pairs, choose):
        pairs = sorted(pairs, key=place_in_order)
        while pairs:
            time, key = pairs.pop(choose(len(pairs)))
            waiting.take(time, key)
            if len(pairs) < 40 or len(pairs) % 37 == 0:
                self.check(waiting, pairs)

    def test_taken_out_from_the_front_the_back_the_middle_and_as_drawn(self):
        draw = random.Random(12)
        for choose in (lambda many: 0, lambda many: many - 1, lambda many: many // 2,
                       lambda many: draw.randrange(many)):
            for times in self.times().values():
                pairs = [(time, (at, at % 3)) for at, time in enumerate(times)]
                waiting = Waiting()
                for time, key in pairs:
                    waiting.put(time, key)
                self.empty(waiting, pairs, choose)

    def test_deeds_as_drawn_behind_each(self):
        draw = random.Random(13)
        waiting = Waiting()
        pairs = []
        for turn in range(700):
            pair = (number(draw.randint(-6, 6), draw.randint(1, 3)),
                    (draw.randint(-2, 2), draw.randint(-2, 2)))
            wished = waiting.put if draw.random() < 0.55 else waiting.take
            if (pair in pairs) == (wished == waiting.take):
                wished(pair[0], pair[1])
                pairs = [other for other in pairs if other != pair]
                pairs += [pair] if wished == waiting.put else []
            else:
                refused(self, NoKey, wished, pair[0], pair[1])
            if turn % 3 == 0:
                self.check(waiting, pairs)

    def test_two_thousand_pairs(self):
        waiting = Waiting()
        pairs = [(number(at * 7 % 2000, 9), (at, 0)) for at in range(2000)]
        for time, key in pairs:
            waiting.put(time, key)
        self.assertEqual(len(flat(waiting.shape())), 2000)
        self.assertEqual(waiting.pairs(), sorted(pairs, key=place_in_order))


if __name__ == "__main__":
    unittest.main()
