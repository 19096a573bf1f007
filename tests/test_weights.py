"""Point [6] and the interface's sections weights.py and pairs.py."""

import importlib
import random
import unittest

from playing import FAR, NO_NUMBERS, NO_RULES, PLAIN_RULES, played, some_rules
from siltstore import weights as weights_file
from siltstore.counts import count
from siltstore.days import digits, layers
from siltstore.errors import BadDay, BadRule, BadWeights
from siltstore.rules import Rule
from siltstore.weights import Weights, weighed

NO_WEIGHTS = [None, 1, "weights", [1], ([], [1]), Weights, Rule([], [(2, 2)])]


def row_of(front, period, many):
    return [front[place] if place < len(front) else period[(place - len(front)) % len(period)] for place in range(many)]


class WeightsTest(unittest.TestCase):
    def test_names(self):
        self.assertEqual([Weights.__module__, weighed.__module__], ["siltstore.weights"] * 2)
        self.assertEqual(weights_file.__name__, "siltstore.weights")
        for name in ("total", "__getitem__", "__eq__", "__init__", "__iter__"):
            self.assertIn(name, vars(Weights))
        weights = Weights(front=[3], period=[1])
        self.assertEqual([weights.total(told=[2, 2]), weighed(rule=Rule([], [(3, 2)]), weights=weights, day=9)], [8, 6])

    def test_the_file_of_pairs_is_there(self):
        self.assertEqual(importlib.import_module("siltstore.pairs").__name__, "siltstore.pairs")

    def test_front_and_period(self):
        weights = Weights([5, -3], [0, 7])
        self.assertEqual([weights.front, weights.period], [(5, -3), (0, 7)])
        self.assertEqual([weights[grade] for grade in range(7)], [5, -3, 0, 7, 0, 7, 0])
        self.assertEqual(weights[2 + 2 * 10 ** 30 + 1], 7)

    def test_told_shorter(self):
        for front, period, ahead, again in [
                ([], [4, 4], (), (4,)),
                ([4, 4], [4], (), (4,)),
                ([], [1, 2, 1, 2], (), (1, 2)),
                ([2], [1, 2], (), (2, 1)),
                ([9, 2], [1, 2, 1, 2], (9,), (2, 1)),
                ([0] * 6, [0] * 6, (), (0,)),
                ((1, 2, 3), (1, 2, 3), (), (1, 2, 3)),
                ([1, 0], [0], (1,), (0,)),
        ]:
            weights = Weights(front, period)
            self.assertEqual((weights.front, weights.period), (ahead, again))
            self.assertEqual(weights, Weights(ahead, again))
            self.assertFalse(weights != Weights(list(ahead), list(again)))

    def test_as_short_as_can_be(self):
        dice = random.Random(41)
        for _ in range(400):
            front = [dice.choice([-1, 0]) for _ in range(dice.randint(0, 6))]
            period = [dice.choice([-1, 0]) for _ in range(dice.randint(1, 6))]
            weights, row = Weights(front, period), row_of(front, period, 40)
            self.assertEqual([weights[grade] for grade in range(40)], row)
            shorter = [(long, again) for long in range(7) for again in range(1, 7)
                       if row_of(row[:long], row[long:long + again], 40) == row]
            self.assertEqual((len(weights.front), len(weights.period)), shorter[0])

    def test_equal(self):
        weights = Weights([1], [2])
        self.assertTrue(weights == Weights((1,), (2, 2)))
        for other in (Weights([2], [1]), Weights([], [2]), Weights([1], [3]), Weights([1], [2, 1]), 1, None,
                      ((1,), (2,)), Rule([], [(2, 2)])):
            self.assertFalse(weights == other)
            self.assertTrue(weights != other)

    def test_no_iteration(self):
        weights = Weights([1], [2])
        self.assertRaises(TypeError, iter, weights)
        self.assertRaises(TypeError, list, weights)
        with self.assertRaises(TypeError):
            1 in weights

    def test_total(self):
        weights = Weights([5, -3], [0, 7])
        self.assertEqual([weights.total([]), weights.total(()), weights.total([1]), weights.total((2, 3, 4, 5, 6))],
                         [0, 0, 5, 36])
        self.assertEqual(weights.total([0, 10 ** 30]), -3 * 10 ** 30)

    def test_six_are_enough(self):
        front, period = [1, 2, 3, 4, 5, 6], [-1, -2, -3, -4, -5, -6]
        weights = Weights(front, period)
        self.assertEqual((weights.front, weights.period), (tuple(front), tuple(period)))

    def test_edges_of_weights(self):
        weights = Weights([-100, 100, 0], [100, -100])
        self.assertEqual([weights[grade] for grade in range(5)], [-100, 100, 0, 100, -100])

    def test_given_lists_are_not_kept(self):
        front, period, told = [3, 2], [2, 4], [1, 1, 1]
        weights = Weights(front, period)
        self.assertEqual(weights.total(told), 7)
        self.assertEqual((front, period, told), ([3, 2], [2, 4], [1, 1, 1]))
        front[0] = 50
        period.clear()
        self.assertEqual((weights.front, weights.period), ((3, 2), (2, 4)))


class BadWeightsTest(unittest.TestCase):
    def test_no_such_lists(self):
        for front, period in [(None, [1]), ([], None), ([], []), ([], ()), ("", [1]), ([], "12"), ({}, [1]),
                              ([], {1: 1}), ([], {1}), (iter([]), [1]), (3, [1]), ([], 1), (True, [1]), ([], range(2))]:
            self.assertRaises(BadWeights, Weights, front, period)

    def test_seven_are_too_many(self):
        for front, period in [([1] * 7, [1]), ([], [1] * 7), ((1,) * 7, (1,)), ([1, 2] * 3 + [1], [2, 1] * 4)]:
            self.assertRaises(BadWeights, Weights, front, period)

    def test_no_such_weights(self):
        for wrong in (-101, 101, 10 ** 30, -10 ** 30, True, False, None, 1.0, "1", [1], (1,), (1, 1)):
            for front, period in [([wrong], [1]), ([], [wrong]), ([1, wrong], [1]), ([1], (2, 1, wrong))]:
                self.assertRaises(BadWeights, Weights, front, period)


class WeighedTest(unittest.TestCase):
    def test_played(self):
        dice = random.Random(42)
        for rule in PLAIN_RULES + some_rules(43, 10, 4):
            front = [dice.randint(-100, 100) for _ in range(dice.randint(0, 6))]
            period = [dice.randint(-100, 100) for _ in range(dice.randint(1, 6))]
            weights, row = Weights(front, period), row_of(front, period, 40)
            self.assertEqual(weighed(rule, weights, 0), 0)
            for play in played(rule, 250):
                self.assertEqual(weighed(rule, weights, play.day), sum(row[layer[2]] for layer in play.layers))

    def test_far_days(self):
        few, weights = Weights([], [1]), Weights([7], [-2, 5])
        for rule in PLAIN_RULES + some_rules(44, 10):
            for day in FAR + [10 ** 3000]:
                self.assertEqual(weighed(rule, few, day), count(rule, day))
                self.assertEqual(weighed(rule, weights, day), weights.total(digits(rule, day)))
            self.assertEqual(weighed(rule, weights, 10 ** 30),
                             sum(weights[grade] for _, _, grade in layers(rule, 10 ** 30)))

    def test_wrong_inputs(self):
        rule, weights = Rule([], [(3, 2)]), Weights([], [1])
        for wrong in NO_NUMBERS:
            self.assertRaises(BadDay, weighed, rule, weights, wrong)
            for other in NO_WEIGHTS:
                self.assertRaises(BadDay, weighed, rule, other, wrong)
        for wrong in NO_WEIGHTS:
            for day in (0, 1, 10 ** 30):
                self.assertRaises(BadWeights, weighed, rule, wrong, day)

    def test_no_rule_is_ahead_of_all(self):
        for wrong in NO_RULES + [Weights([], [1])]:
            for weights in (Weights([], [1]), None):
                for day in (5, -1, True):
                    with self.assertRaises(BadRule) as caught:
                        weighed(wrong, weights, day)
                    self.assertIsNone(caught.exception.place)

    def test_arguments_stay(self):
        rule, weights = Rule([(3, 2)], [(4, 4)]), Weights([1], [2])
        weighed(rule, weights, 99)
        self.assertEqual((rule, weights), (Rule([(3, 2)], [(4, 4)]), Weights([1], [2])))


if __name__ == "__main__":
    unittest.main()
