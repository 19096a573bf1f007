"""Point [2] and the interface's section rules.py."""

import itertools
import random
import unittest

from playing import PLAIN_RULES, some_pair, some_rules
from siltstore.errors import BadRule
from siltstore.rules import Rule


def pairs_of(front, period, many):
    endless = itertools.chain(front, itertools.cycle(period))
    return list(itertools.islice(endless, many))


def shortest_of(front, period):
    """The shortest front and period, tried one by one."""
    row = pairs_of(front, period, 40)
    for long in range(7):
        for again in range(1, 7):
            if pairs_of(row[:long], row[long:long + again], 40) == row:
                return tuple(row[:long]), tuple(row[long:long + again])
    raise AssertionError("no front and period are found")


class RuleTest(unittest.TestCase):
    def test_example(self):
        rule = Rule([(3, 2), (4, 4)], [(4, 4), (4, 4)])
        told = [rule.front, rule.period, rule[5], rule.size(2), rule.owed(2)]
        self.assertEqual(told, [((3, 2),), ((4, 4),), (4, 4), 8, 1])

    def test_names(self):
        self.assertEqual(Rule.__module__, "siltstore.rules")
        self.assertEqual(Rule(front=[(3, 2)], period=[(2, 2)]), Rule([(3, 2)], [(2, 2)]))
        for name in ("size", "owed", "__getitem__", "__eq__"):
            self.assertIn(name, vars(Rule))

    def test_shorter_ones_are_the_same(self):
        two, three, four = (2, 2), (3, 2), (4, 2)
        for front, period, ahead, again in [
                ([], [two, two, two], (), (two,)),
                ([], [two, three, two, three], (), (two, three)),
                ([], [two, three] * 3, (), (two, three)),
                ([], [two, two, three] * 2, (), (two, two, three)),
                ([two], [three, two], (), (two, three)),
                ([two, three], [two, three], (), (two, three)),
                ([three, two], [two, three, two], (), (three, two, two)),
                ([four, two], [two, three, two], (four,), (two, two, three)),
                ([four, two], [three, two, three, two], (four,), (two, three)),
                ([three, two, three, two, three, two], [three, two], (), (three, two)),
                ([two] * 6, [two] * 6, (), (two,)),
                ([two, two, three], [four, two, three], (two,), (two, three, four)),
                ([two, three, four], [two, three], (two, three, four), (two, three)),
        ]:
            rule = Rule(front, period)
            self.assertEqual((rule.front, rule.period), (ahead, again))
            self.assertEqual(rule, Rule(ahead, again))
            self.assertFalse(rule != Rule(list(ahead), list(again)))

    def test_as_short_as_can_be(self):
        dice = random.Random(2)
        choices = [some_pair(dice) for _ in range(2)]
        for _ in range(600):
            front = [dice.choice(choices) for _ in range(dice.randint(0, 6))]
            period = [dice.choice(choices) for _ in range(dice.randint(1, 6))]
            rule = Rule(front, period)
            self.assertEqual((rule.front, rule.period), shortest_of(front, period))
            self.assertEqual([rule[grade] for grade in range(40)], pairs_of(front, period, 40))

    def test_equal(self):
        rule = Rule([(3, 2)], [(2, 2)])
        self.assertTrue(rule == Rule(((3, 2),), ((2, 2), (2, 2))))
        for other in (Rule([(3, 3)], [(2, 2)]), Rule([], [(2, 2)]), Rule([(3, 2)], [(3, 2)]), 3, None,
                      (((3, 2),), ((2, 2),))):
            self.assertFalse(rule == other)
            self.assertTrue(rule != other)

    def test_pair_of_a_grade(self):
        rule = Rule([(5, 2), (6, 3)], [(2, 2), (3, 2), (4, 2)])
        self.assertEqual([rule[grade] for grade in range(7)],
                         [(5, 2), (6, 3), (2, 2), (3, 2), (4, 2), (2, 2), (3, 2)])
        self.assertEqual(rule[2 + 3 * 10 ** 30 + 1], (3, 2))

    def test_size_and_owed(self):
        for rule in PLAIN_RULES + some_rules(5, 20):
            size, owed = 1, 0
            for grade in range(120):
                self.assertEqual((rule.size(grade), rule.owed(grade)), (size, owed))
                most, many = rule[grade]
                owed += size * (most - many)
                size *= many

    def test_no_iteration(self):
        rule = Rule([(3, 2)], [(2, 2)])
        self.assertRaises(TypeError, iter, rule)
        self.assertRaises(TypeError, list, rule)
        with self.assertRaises(TypeError):
            (2, 2) in rule

    def test_edges_of_pairs(self):
        for most in range(2, 13):
            for many in range(2, most + 1):
                self.assertEqual(Rule([], [(most, many)])[0], (most, many))

    def test_six_are_enough(self):
        front = [(2 + grade, 2) for grade in range(6)]
        period = [(3 + grade, 3) for grade in range(6)]
        rule = Rule(front, period)
        self.assertEqual((rule.front, rule.period), (tuple(front), tuple(period)))

    def test_given_lists_are_not_kept(self):
        front, period = [(3, 2), (2, 2)], [(2, 2), (4, 2)]
        rule = Rule(front, period)
        self.assertEqual((front, period), ([(3, 2), (2, 2)], [(2, 2), (4, 2)]))
        front[0] = (12, 12)
        period.clear()
        self.assertEqual((rule.front, rule.period), (((3, 2), (2, 2)), ((2, 2), (4, 2))))


class BadRuleTest(unittest.TestCase):
    def place(self, front, period):
        with self.assertRaises(BadRule) as caught:
            Rule(front, period)
        return caught.exception.place

    def test_no_such_lists(self):
        two = (2, 2)
        for front, period in [(None, [two]), ([], None), ([], []), ([], ()), ("", [two]), ([], "ab"), ({}, [two]),
                              ([], {two: 1}), ([], {two}), (iter([]), [two]), ([two] * 7, [two]), ([], [two] * 7),
                              ((two,) * 7, (two,)), (3, [two]), (True, [two]), ([], 0)]:
            self.assertIsNone(self.place(front, period))

    def test_lists_ahead_of_pairs(self):
        self.assertIsNone(self.place([(1, 1)], []))
        self.assertIsNone(self.place([(1, 1)] * 7, [(2, 2)]))
        self.assertIsNone(self.place([(1, 1)], [(2, 2)] * 7))

    def test_no_such_pairs(self):
        wrong = [[2, 2], (1, 1), (2, 1), (2, 3), (13, 2), (13, 13), (12, 13), (2,), (2, 2, 2), (), 2, None, "22",
                 (True, True), (2, True), (3.0, 2), (3, 2.0), ("3", 2), (0, 0), (-2, -2), (3, -2), (None, 2),
                 {2: 2, 3: 3}, (10 ** 30, 2), (2, 10 ** 30)]
        for pair in wrong:
            self.assertEqual(self.place([], [pair]), 0)
            self.assertEqual(self.place([(2, 2), pair, (3, 2)], [(2, 2)]), 1)

    def test_place_of_the_first(self):
        two, wrong = (2, 2), (1, 1)
        self.assertEqual(self.place([two, two], [two, wrong, wrong]), 3)
        self.assertEqual(self.place([two, wrong, two], [wrong]), 1)
        self.assertEqual(self.place((wrong,), (wrong,)), 0)
        self.assertEqual(self.place([two] * 6, [two] * 5 + [[2, 2]]), 11)


if __name__ == "__main__":
    unittest.main()
