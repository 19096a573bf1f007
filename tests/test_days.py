"""Point [3] and the interface's section days.py."""

import itertools
import random
import unittest

from playing import FAR, NO_NUMBERS, NO_RULES, PLAIN_RULES, played, some_rules
from siltstore import days
from siltstore.days import baked, day_made, day_of, digits, each_day, layers, made, next_baked
from siltstore.errors import BadDay, BadDigits, BadRule
from siltstore.rules import Rule


class PlayedTest(unittest.TestCase):
    """Each function, held against stores that are played."""

    def test_what_lies_there(self):
        for rule in PLAIN_RULES + some_rules(1, 12, 4) + some_rules(2, 6):
            told = each_day(rule)
            for play in played(rule, 250):
                self.assertEqual(digits(rule, play.day), play.digits())
                self.assertEqual(next(told), play.digits())
                self.assertEqual(day_of(rule, play.digits()), play.day)
                self.assertEqual(layers(rule, play.day), play.layers)

    def test_what_is_baked(self):
        for rule in PLAIN_RULES + some_rules(3, 12, 4) + some_rules(4, 6):
            for play in played(rule, 250):
                self.assertEqual(baked(rule, play.day), play.baked)
                self.assertEqual(baked(rule, play.day), list(range(len(play.baked))))

    def test_how_many_there_have_been(self):
        for rule in PLAIN_RULES + some_rules(5, 12, 4) + some_rules(6, 6):
            first_days = {}
            for play in played(rule, 250):
                for grade, many in enumerate(play.made):
                    self.assertEqual(made(rule, grade, play.day), many)
                    first_days.setdefault((grade, many), play.day)
                self.assertEqual(made(rule, len(play.made), play.day), 0)
            for (grade, many), day in first_days.items():
                self.assertEqual(day_made(rule, grade, many), day)

    def test_what_is_baked_next(self):
        for rule in PLAIN_RULES + some_rules(7, 12, 4) + some_rules(8, 6):
            on_day = [[]] + [list(play.baked) for play in played(rule, 250)]
            for grade in range(4):
                after = None
                for day in reversed(range(250)):
                    if grade in on_day[day + 1]:
                        after = day + 1
                    if after is not None:
                        self.assertEqual(next_baked(rule, grade, day), after)


class ExamplesTest(unittest.TestCase):
    def test_example(self):
        rule = Rule([], [(3, 2)])
        told = [digits(rule, 9), day_of(rule, [1, 2, 1]), layers(rule, 9), made(rule, 1, 9), baked(rule, 7),
                next_baked(rule, 1, 7)]
        self.assertEqual(told, [[1, 2, 1], 9, [(1, 4, 2), (5, 6, 1), (7, 8, 1), (9, 9, 0)], 4, [0, 1], 11])

    def test_names(self):
        for name in ("digits", "day_of", "each_day", "layers", "made", "day_made", "baked", "next_baked"):
            self.assertEqual(getattr(days, name).__module__, "siltstore.days")
        rule = Rule([], [(3, 2)])
        told = [digits(rule=rule, day=3), day_of(rule=rule, told=[1]), layers(rule=rule, day=1),
                made(rule=rule, grade=0, day=4), day_made(rule=rule, grade=0, many=2), baked(rule=rule, day=1),
                next_baked(rule=rule, grade=0, day=0)]
        self.assertEqual(told, [[1, 1], 1, [(1, 1, 0)], 4, 2, [], 3])
        self.assertEqual(next(each_day(rule=rule, first=9)), [1, 2, 1])

    def test_day_0(self):
        for rule in PLAIN_RULES:
            self.assertEqual([digits(rule, 0), layers(rule, 0), baked(rule, 0)], [[], [], []])
            self.assertEqual([day_of(rule, []), day_of(rule, ())], [0, 0])
            for grade in range(30):
                self.assertEqual([made(rule, grade, 0), day_made(rule, grade, 0)], [0, 0])
                self.assertEqual(next_baked(rule, grade, 0), day_made(rule, grade + 1, 1))

    def test_grade_0(self):
        for rule in PLAIN_RULES:
            for day in [0, 1, 2, 77, 10 ** 30]:
                self.assertEqual([made(rule, 0, day), day_made(rule, 0, day)], [day, day])

    def test_binary(self):
        rule = Rule([], [(2, 2)])
        for day in [1, 2, 12, 255, 256, 10 ** 30]:
            self.assertEqual(digits(rule, day), [int(bit) for bit in reversed(f"{day:b}")])

    def test_grades_that_no_day_has_yet(self):
        rule = Rule([(3, 2)], [(4, 4)])
        self.assertEqual(made(rule, 10 ** 30, 10 ** 30), 0)
        self.assertEqual(day_made(rule, 10 ** 30, 0), 0)


class FarDaysTest(unittest.TestCase):
    def test_digits_and_back(self):
        for rule in PLAIN_RULES + some_rules(9, 30):
            for day in FAR:
                told = digits(rule, day)
                self.assertEqual(day_of(rule, told), day)
                self.assertEqual(day_of(rule, tuple(told)), day)
                for grade, digit in enumerate(told[:-1]):
                    most, many = rule[grade]
                    self.assertTrue(most - many <= digit < most)
                self.assertTrue(1 <= told[-1] < rule[len(told) - 1][0])

    def test_layers_lie_side_by_side(self):
        for rule in PLAIN_RULES + some_rules(10, 10):
            for day in FAR:
                found, behind = layers(rule, day), 1
                for first, last, grade in found:
                    self.assertEqual((first, last), (behind, behind + rule.size(grade) - 1))
                    behind = last + 1
                self.assertEqual(behind, day + 1)
                grades = [grade for _, _, grade in found]
                self.assertEqual(grades, sorted(grades, reverse=True))
                self.assertEqual([grades.count(grade) for grade in range(grades[0] + 1)], digits(rule, day))

    def test_made_and_baked(self):
        for rule in PLAIN_RULES + some_rules(11, 10):
            for day in FAR:
                for grade in (0, 1, 2, 7, 30):
                    many = made(rule, grade, day)
                    self.assertLessEqual(day_made(rule, grade, many), day)
                    self.assertGreater(day_made(rule, grade, many + 1), day)
                    behind = next_baked(rule, grade, day)
                    self.assertGreater(behind, day)
                    self.assertEqual(baked(rule, behind)[:grade + 1], list(range(grade + 1)))
                    self.assertEqual(made(rule, grade + 1, behind), made(rule, grade + 1, behind - 1) + 1)
                    self.assertEqual(made(rule, grade + 1, behind - 1), made(rule, grade + 1, day))

    def test_each_day_from_a_far_one(self):
        for rule in PLAIN_RULES + some_rules(12, 10):
            for first in FAR + [rule.owed(40) + rule.size(40) - 3]:
                told = list(itertools.islice(each_day(rule, first=first), 8))
                self.assertEqual(told, [digits(rule, first + more) for more in range(8)])


class DigitsTest(unittest.TestCase):
    def place(self, rule, told):
        with self.assertRaises(BadDigits) as caught:
            day_of(rule, told)
        return caught.exception.place

    def test_least_and_greatest(self):
        for rule in PLAIN_RULES + some_rules(13, 10):
            for long in range(1, 9):
                pairs = [rule[grade] for grade in range(long)]
                least = [most - many for most, many in pairs[:-1]] + [1]
                greatest = [most - 1 for most, _ in pairs]
                self.assertEqual(digits(rule, day_of(rule, least)), least)
                self.assertEqual(digits(rule, day_of(rule, greatest)), greatest)
                self.assertEqual(digits(rule, day_of(rule, greatest) + 1),
                                 [most - many for most, many in pairs] + [1])
                for at in range(long):
                    below = least[:at] + [least[at] - 1] + least[at + 1:]
                    above = greatest[:at] + [greatest[at] + 1] + greatest[at + 1:]
                    self.assertEqual([self.place(rule, below), self.place(rule, above)], [at, at])

    def test_the_last_one_is_from_1(self):
        self.assertEqual(day_of(Rule([], [(12, 2)]), [1]), 1)
        self.assertEqual(day_of(Rule([], [(5, 5)]), [0, 0, 1]), 25)
        self.assertEqual(self.place(Rule([], [(5, 5)]), [0]), 0)
        self.assertEqual(self.place(Rule([], [(5, 5)]), [1, 0, 0]), 2)

    def test_just_those_that_fit_are_days(self):
        for rule in (Rule([], [(3, 2)]), Rule([(2, 2)], [(4, 3), (3, 3)])):
            fitting = [told for long in range(5) for told in itertools.product(range(5), repeat=long)
                       if self.fits(rule, told)]
            found = sorted(day_of(rule, told) for told in fitting)
            self.assertEqual(found, list(range(len(fitting))))

    def fits(self, rule, told):
        try:
            day_of(rule, told)
        except BadDigits:
            return False
        return True

    def test_no_list(self):
        rule = Rule([], [(3, 2)])
        for told in (None, 5, "11", {1: 1}, {1}, iter([1]), True, range(2)):
            self.assertIsNone(self.place(rule, told))

    def test_no_integers(self):
        rule = Rule([], [(3, 2)])
        for digit in (True, False, None, 1.0, "1", [1], (1,), -1, 3, 10 ** 30):
            self.assertEqual(self.place(rule, [digit]), 0)
            self.assertEqual(self.place(rule, [1, 2, digit, digit, 1]), 2)
            self.assertEqual(self.place(rule, (2, 1, 1, digit)), 3)


class WrongInputsTest(unittest.TestCase):
    def calls(self, rule, grade, day):
        """All calls, and whether they look at the grade."""
        return [
            (lambda: digits(rule, day), False),
            (lambda: layers(rule, day), False),
            (lambda: baked(rule, day), False),
            (lambda: made(rule, grade, day), True),
            (lambda: day_made(rule, grade, day), True),
            (lambda: next_baked(rule, grade, day), True),
        ]

    def test_no_rule_is_ahead_of_all(self):
        for wrong in NO_RULES:
            told = [call for call, _ in self.calls(wrong, -1, -1)]
            told += [lambda: day_of(wrong, None), lambda: day_of(wrong, [9]), lambda: next(each_day(wrong))]
            for call in told:
                with self.assertRaises(BadRule) as caught:
                    call()
                self.assertIsNone(caught.exception.place)

    def test_no_day(self):
        rule = Rule([], [(3, 2)])
        for wrong in NO_NUMBERS:
            for call, _ in self.calls(rule, 1, wrong):
                self.assertRaises(BadDay, call)

    def test_no_grade(self):
        rule = Rule([], [(3, 2)])
        for wrong in NO_NUMBERS:
            for call, has_grade in self.calls(rule, wrong, 5):
                if has_grade:
                    self.assertRaises(BadDay, call)

    def test_first_by_keyword_only(self):
        self.assertRaises(TypeError, each_day, Rule([], [(2, 2)]), 5)


class NewListsTest(unittest.TestCase):
    def test_returned_lists_are_new(self):
        rule = Rule([(3, 2)], [(4, 4)])
        for answer in (digits, layers, baked):
            for day in (0, 1, 3, 9, 10 ** 20):
                first = answer(rule, day)
                kept = list(first)
                first.append("more")
                self.assertEqual(answer(rule, day), kept)

    def test_generated_lists_are_new(self):
        rule, found = Rule([(3, 2)], [(4, 4)]), []
        for told in itertools.islice(each_day(rule), 60):
            found.append(list(told))
            told.clear()
        self.assertEqual(found, [digits(rule, day) for day in range(1, 61)])

    def test_two_at_once(self):
        rule = Rule([], [(3, 2)])
        one, other = each_day(rule), each_day(rule, first=5)
        told = [(next(one), next(other)) for _ in range(20)]
        self.assertEqual(told, [(digits(rule, day), digits(rule, day + 4)) for day in range(1, 21)])

    def test_arguments_stay(self):
        rule, told = Rule([], [(3, 2)]), [1, 2, 1]
        day_of(rule, told)
        self.assertEqual(told, [1, 2, 1])
        for call in (lambda: digits(rule, 99), lambda: layers(rule, 99), lambda: next(each_day(rule, first=9))):
            call()
            self.assertEqual(rule, Rule([], [(3, 2)]))


class RandomDaysTest(unittest.TestCase):
    def test_each_day_has_its_digits(self):
        dice = random.Random(14)
        for rule in some_rules(14, 60):
            for _ in range(20):
                day = dice.randrange(10 ** dice.randint(1, 60))
                self.assertEqual(day_of(rule, digits(rule, day)), day)
                sizes = [rule.size(grade) for grade in range(len(digits(rule, day)))]
                self.assertEqual(sum(digit * size for digit, size in zip(digits(rule, day), sizes)), day)


if __name__ == "__main__":
    unittest.main()
