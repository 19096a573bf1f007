"""Point [5] and the interface's section counts.py, and what point [1] tells of evidence."""

import random
import unittest

from playing import FAR, NO_NUMBERS, NO_RULES, PLAIN_RULES, played, some_rules
from siltstore import counts
from siltstore.counts import Fewest, Most, count, fewest, first_with, most
from siltstore.days import digits, layers, next_baked
from siltstore.errors import BadDay, BadRule
from siltstore.rules import Rule
from siltstore.weights import Weights

RULES = PLAIN_RULES + some_rules(31, 12, 4) + some_rules(32, 6)


class PlayedTest(unittest.TestCase):
    """Each function, held against stores that are played."""

    def numbers(self, rule, last):
        """The numbers of layers on day 0 and on so many days behind it."""
        return [0] + [len(play.layers) for play in played(rule, last)]

    def test_count(self):
        for rule in RULES:
            numbers = self.numbers(rule, 400)
            self.assertEqual([count(rule, day) for day in range(401)], numbers)

    def test_first_with(self):
        for rule in RULES:
            numbers = self.numbers(rule, 400)
            for many in range(max(numbers) + 1):
                first = [day for day, number in enumerate(numbers) if number >= many][0]
                self.assertEqual(first_with(rule, many), first)
            self.assertGreater(first_with(rule, max(numbers) + 1), 400)

    def test_most(self):
        for rule in RULES:
            numbers = self.numbers(rule, 400)
            for last in range(401):
                number = max(numbers[:last + 1])
                self.assertEqual(most(rule, last), Most(number, numbers.index(number)))

    def test_fewest(self):
        for rule in RULES:
            # With each further grade the least number grows, so the days up to the next greatest grade are enough.
            numbers = self.numbers(rule, 1500)
            for first in [first for first in range(100) if self.next_greatest(rule, first) <= 1500]:
                number = min(numbers[first:])
                self.assertEqual(fewest(rule, first), Fewest(number, numbers.index(number, first)))

    def next_greatest(self, rule, day):
        grade = 0
        while rule.owed(grade) + rule.size(grade) <= day:
            grade += 1
        return rule.owed(grade) + rule.size(grade)


class ExamplesTest(unittest.TestCase):
    def test_example(self):
        rule = Rule([], [(3, 2)])
        told = [count(rule, 9), first_with(rule, 5), most(rule, 100).number, most(rule, 100).day,
                fewest(rule, 9).number, fewest(rule, 9).day]
        self.assertEqual(told, [4, 10, 11, 94, 4, 9])

    def test_names(self):
        for name in ("count", "first_with", "most", "fewest", "Most", "Fewest"):
            self.assertEqual(getattr(counts, name).__module__, "siltstore.counts")
        for kind in (Most, Fewest):
            self.assertIn("shows", vars(kind))
            self.assertIn("__eq__", vars(kind))
            self.assertEqual([kind(number=4, day=9).number, kind(number=4, day=9).day], [4, 9])
        rule = Rule([], [(3, 2)])
        self.assertEqual([count(rule=rule, day=9), first_with(rule=rule, many=5)], [4, 10])
        self.assertTrue(most(rule=rule, last=100).shows(rule=rule, last=100))
        self.assertTrue(fewest(rule=rule, first=9).shows(rule=rule, first=9))

    def test_day_0_and_day_1(self):
        for rule in RULES:
            self.assertEqual([count(rule, 0), count(rule, 1), first_with(rule, 0), first_with(rule, 1)], [0, 1, 0, 1])
            self.assertEqual([most(rule, 0), most(rule, 1)], [Most(0, 0), Most(1, 1)])
            self.assertEqual([fewest(rule, 0), fewest(rule, 1)], [Fewest(0, 0), Fewest(1, 1)])

    def test_first_with_400(self):
        self.assertEqual(first_with(Rule([], [(2, 2)]), 400), 2 ** 400 - 1)
        self.assertEqual(first_with(Rule([], [(3, 2)]), 400), 2 * (2 ** 200 - 1))
        self.assertEqual(first_with(Rule([], [(3, 2)]), 401), 2 * (2 ** 200 - 1) + 2 ** 200)
        for rule in RULES:
            for many in (2, 39, 399, 400, 401):
                day = first_with(rule, many)
                self.assertEqual(count(rule, day), many)
                self.assertEqual([most(rule, day), most(rule, day - 1).number], [Most(many, day), many - 1])

    def test_fewest_is_the_first_of_as_few(self):
        two = Rule([], [(2, 2)])
        self.assertEqual([fewest(two, first) for first in (2, 3, 5, 64, 65)],
                         [Fewest(1, 2), Fewest(1, 4), Fewest(1, 8), Fewest(1, 64), Fewest(1, 128)])
        lazy = Rule([], [(12, 2)])
        self.assertEqual([fewest(lazy, first) for first in (5, 11, 12, 13, 14)],
                         [Fewest(5, 5), Fewest(11, 11), Fewest(11, 12), Fewest(12, 13), Fewest(12, 14)])

    def test_fewest_within_the_greatest_grade(self):
        # The digits are [0, 1] on day 3, [0, 2] on day 6, [0, 3] on day 9, and [0, 2, 1] on day 12.
        rule = Rule([(3, 3)], [(4, 2)])
        self.assertEqual([fewest(rule, first) for first in (4, 5, 6, 7, 9, 10)],
                         [Fewest(2, 4), Fewest(2, 6), Fewest(2, 6), Fewest(3, 7), Fewest(3, 9), Fewest(3, 12)])


class FarDaysTest(unittest.TestCase):
    def test_count(self):
        for rule in RULES:
            for day in FAR:
                self.assertEqual(count(rule, day), len(layers(rule, day)))

    def test_most(self):
        dice = random.Random(33)
        for rule in RULES:
            for last in FAR:
                found = most(rule, last)
                self.assertLessEqual(found.day, last)
                self.assertEqual(count(rule, found.day), found.number)
                self.assertEqual(first_with(rule, found.number), found.day)
                self.assertGreater(first_with(rule, found.number + 1), last)
                for day in [last, last - 1] + [dice.randint(0, last) for _ in range(5)]:
                    self.assertLessEqual(count(rule, day), found.number)

    def test_fewest(self):
        for rule in RULES:
            for first in FAR:
                found = fewest(rule, first)
                self.assertGreaterEqual(found.day, first)
                self.assertEqual(count(rule, found.day), found.number)
                self.assertEqual(fewest(rule, found.day), found)
                # Numbers fall only where something is baked, and each grade leaves the fewest when it is baked next.
                grades = range(len(digits(rule, first)) + 1)
                tried = [first] + [next_baked(rule, grade, first) for grade in grades[-60:]]
                self.assertGreaterEqual(min(count(rule, day) for day in tried), found.number)
                if len(grades) <= 60:
                    self.assertIn(found.day, tried)
                    self.assertFalse([day for day in tried if day < found.day and count(rule, day) == found.number])

    def test_fewest_ahead_of_a_rarely_met_day(self):
        for rule in RULES:
            for grade in (1, 2, 9, 40):
                day = rule.owed(grade) + rule.size(grade)
                number = 1 + sum(rule[lesser][0] - rule[lesser][1] for lesser in range(grade))
                self.assertEqual(count(rule, day), number)
                for first in (day - 1, day, day // 2):
                    self.assertLessEqual(fewest(rule, first).number, number)
                    self.assertLessEqual(fewest(rule, first).day, day)

    def test_days_with_thousands_of_figures(self):
        day = 10 ** 3000 + 7
        for rule in PLAIN_RULES[:4]:
            found, least = most(rule, day), fewest(rule, day)
            self.assertEqual([count(rule, found.day), count(rule, least.day)], [found.number, least.number])
            self.assertTrue(found.shows(rule, day) and least.shows(rule, day))
            self.assertTrue(least.number <= count(rule, day) <= found.number)
            self.assertTrue(found.day <= day <= least.day)


class EvidenceTest(unittest.TestCase):
    FINDERS = [(most, Most), (fewest, Fewest)]

    def test_shows_what_is_returned(self):
        for finder, kind in self.FINDERS:
            for rule in RULES:
                for day in [0, 1, 2, 9, 100, 10 ** 30, 10 ** 300]:
                    found = finder(rule, day)
                    self.assertIs(type(found), kind)
                    self.assertIs(found.shows(rule, day), True)
                    self.assertIs(kind(found.number, found.day).shows(rule, day), True)

    def test_does_not_show_other_numbers_or_days(self):
        for finder, kind in self.FINDERS:
            for rule in RULES:
                for day in [0, 1, 2, 9, 100, 10 ** 30]:
                    found = finder(rule, day)
                    for more in (-10 ** 40, -found.number, -2, -1, 1, 2, 10 ** 40):
                        if more:
                            self.assertIs(kind(found.number + more, found.day).shows(rule, day), False)
                            self.assertIs(kind(found.number, found.day + more).shows(rule, day), False)

    def test_does_not_show_a_later_day_with_as_many(self):
        rule = Rule([], [(3, 2)])
        self.assertEqual([count(rule, 4), count(rule, 6), most(rule, 6).day], [3, 4, 6])
        self.assertEqual([count(rule, 9), count(rule, 11)], [4, 4])
        self.assertEqual([Most(4, 6).shows(rule, 9), Most(4, 9).shows(rule, 9)], [True, False])
        self.assertEqual([Fewest(4, 9).shows(rule, 9), Fewest(4, 11).shows(rule, 9)], [True, False])
        self.assertEqual([Fewest(4, 6).shows(rule, 9), Fewest(1, 1).shows(rule, 9)], [False, False])

    def test_does_not_show_for_another_rule_or_day(self):
        rule, other = Rule([], [(3, 2)]), Rule([], [(2, 2)])
        self.assertEqual([most(rule, 100).shows(rule, 93), most(rule, 100).shows(rule, 94)], [False, True])
        self.assertEqual([most(rule, 100).shows(rule, 10 ** 30), most(rule, 100).shows(other, 100)], [False, False])
        self.assertEqual([fewest(rule, 9).shows(rule, 10), fewest(rule, 9).shows(rule, 8)], [False, False])
        self.assertEqual([fewest(rule, 9).shows(rule, 10 ** 30), fewest(rule, 9).shows(other, 9)], [False, False])

    def test_shows_speaks_of_changed_attributes(self):
        rule = Rule([], [(3, 2)])
        for finder, other in [(most, 10), (most, 10 ** 30), (fewest, 50), (fewest, 10 ** 30)]:
            found, aim = finder(rule, 9), finder(rule, other)
            self.assertFalse(found.shows(rule, other))
            found.number = aim.number
            found.day = aim.day
            self.assertTrue(found.shows(rule, other))
            self.assertFalse(found.shows(rule, 9))
            found.number += 1
            self.assertFalse(found.shows(rule, other))

    def test_equal(self):
        for one, other in [(Most, Fewest), (Fewest, Most)]:
            self.assertTrue(one(4, 9) == one(4, 9))
            self.assertFalse(one(4, 9) != one(4, 9))
            for unlike in (one(4, 8), one(5, 9), one(9, 4), other(4, 9), (4, 9), [4, 9], None, 4):
                self.assertFalse(one(4, 9) == unlike)
                self.assertTrue(one(4, 9) != unlike)
            changed = one(4, 8)
            changed.day = 9
            self.assertEqual(changed, one(4, 9))

    def test_true(self):
        for kind in (Most, Fewest):
            for number, day in [(0, 0), (4, 9), (-1, -1)]:
                self.assertIs(bool(kind(number, day)), True)

    def test_each_is_new(self):
        rule = Rule([], [(3, 2)])
        for finder, _ in self.FINDERS:
            found = finder(rule, 9)
            found.number = -5
            self.assertNotEqual(finder(rule, 9).number, -5)


class WrongInputsTest(unittest.TestCase):
    def calls(self, rule, day):
        return [lambda: count(rule, day), lambda: first_with(rule, day), lambda: most(rule, day),
                lambda: fewest(rule, day), lambda: Most(1, 1).shows(rule, day), lambda: Fewest(1, 1).shows(rule, day)]

    def test_no_day(self):
        for wrong in NO_NUMBERS:
            for call in self.calls(Rule([], [(3, 2)]), wrong):
                self.assertRaises(BadDay, call)

    def test_no_rule_is_ahead_of_all(self):
        for wrong in NO_RULES + [Weights([], [1])]:
            for day in (-1, True, 5):
                for call in self.calls(wrong, day):
                    with self.assertRaises(BadRule) as caught:
                        call()
                    self.assertIsNone(caught.exception.place)

    def test_the_rule_stays(self):
        rule = Rule([(3, 2)], [(4, 4)])
        for call in self.calls(rule, 77):
            call()
            self.assertEqual(rule, Rule([(3, 2)], [(4, 4)]))


if __name__ == "__main__":
    unittest.main()
