"""Point [27] and the interface's section policies.py."""

import inspect
import itertools
import random
import unittest

from siltstore import errors, policies
from siltstore.policies import (KeepsAll, KeepsLittle, KeepsMore, LosesOne, judge_lean, judge_policy, kept_days,
                                needed_days)
from siltstore.sheeterrors import BadDay, BadPolicy

PINNED, AFTER, ANY = ("pinned",), ("after",), ("any",)
# Of no version that is covered: one is newer, and came at least a day later.
NEVER = (("newest", 0), ("newest", 1), ("young", 0))
NO_POLICIES = [None, 3, True, "pinned", "", [], (), ["pinned"], ("Pinned",), ("pinned", 1), ("any", ()), ("pin",),
               ("newest",), ("newest", 1, 2), ("newest", -1), ("newest", 13), ("newest", True), ("newest", None),
               ("newest", "1"), ("newest", 1.0), ("newest", (1,)), ["newest", 1], ("young",), ("young", 10 ** 30),
               ("young", False), ("fresh", -1), ("fresh", 13), ("fresh",), (3,), (None,), (("pinned",),), ((),),
               ("not",), ("not", 1), ("not", "any"), ("not", ["any"]), ("not", ANY, ANY), ("not", ()), ("and",),
               ("and", ANY), ("and", ANY, None), ("and", 3, ANY), ("and", ANY, ANY, ANY), ("or",), ("or", ANY),
               ("or", ANY, ["any"]), ("or", ("newest", 13), ANY), ("or", ANY, ANY, ANY), {"pinned": 1}, ("AND", ANY, ANY)]
NO_DAYS = [None, 3, "3", {3: 1}, {3}, range(1, 3), True, iter([3])]
NO_DAY = [0, -1, True, False, None, "1", 1.0, [1], (1,), -10 ** 30]
NO_PINS = NO_DAYS + [[wrong] for wrong in NO_DAY[1:]] + [(1, wrong) for wrong in NO_DAY[1:]]
NO_TODAYS = NO_DAY


def some_policy(dice, deep, most):
    word = dice.choice("pinned after any newest young fresh newest young fresh not and and or or".split())
    if deep == 1 or word in ("pinned", "after", "any", "newest", "young", "fresh"):
        if word not in ("pinned", "after", "any"):
            return dice.choice(["newest", "young", "fresh"]), dice.randint(0, most)
        return (word,)
    return (word, *[some_policy(dice, deep - 1, most) for _ in range(1 if word == "not" else 2)])


def stays(policy, days, place, pins, today):
    """Whether a covered version stays, told word by word."""
    word, *parts = policy
    day, newer = days[place], days[place + 1]
    if word == "not":
        return not stays(parts[0], days, place, pins, today)
    if word in ("and", "or"):
        told = [stays(part, days, place, pins, today) for part in parts]
        return all(told) if word == "and" else any(told)
    return {"pinned": lambda: any(day <= pin < newer for pin in pins), "after": lambda: any(pin >= day for pin in pins),
            "any": lambda: bool(pins), "newest": lambda: len(days[place + 1:]) < parts[0],
            "young": lambda: today - day <= parts[0], "fresh": lambda: today - newer <= parts[0]}[word]()


def all_kept(policy, days, pins, today):
    return [day for place, day in enumerate(days) if place == len(days) - 1 or stays(policy, days, place, pins, today)]


def numbers_in(policy):
    if policy[0] in ("newest", "young", "fresh"):
        return [policy[1]]
    return [number for part in policy[1:] for number in numbers_in(part)]


def all_days(today):
    for many in range(today + 1):
        yield from itertools.combinations(range(1, today + 1), many)


def all_pins(today):
    for many in range(3):
        yield from itertools.combinations(range(today + 2), many)


class PolicyTest(unittest.TestCase):
    def test_names(self):
        for name, told in [("kept_days", "(policy, days, pins, today)"), ("needed_days", "(days, pins, today)"),
                           ("judge_policy", "(policy)"), ("judge_lean", "(policy)")]:
            self.assertEqual(getattr(policies, name).__module__, "siltstore.policies")
            self.assertEqual(str(inspect.signature(getattr(policies, name))), told)
        for kind in (KeepsAll, LosesOne, KeepsLittle, KeepsMore):
            self.assertEqual(kind.__module__, "siltstore.policies")
            for name in "__init__ __eq__ __bool__ shows".split():
                self.assertIn(name, vars(kind))

    def test_example(self):
        told = [kept_days(PINNED, [1, 4, 6, 9], [4, 8], 10), bool(judge_policy(AFTER)), bool(judge_lean(AFTER))]
        self.assertEqual(told, [[4, 6, 9], True, False])
        policy = ("or", ("newest", 3), ("young", 5))
        self.assertEqual([bool(judge_policy(policy)), kept_days(policy, [1, 7, 8, 9], [1], 9)], [False, [7, 8, 9]])

    def test_kept_days(self):
        dice = random.Random(271)
        for _ in range(600):
            policy, today = some_policy(dice, 4, 12), dice.randint(1, 20)
            days = sorted(dice.sample(range(1, today + 1), dice.randint(0, min(today, 7))))
            pins = [dice.randint(0, today + 3) for _ in range(dice.randint(0, 3))]
            kind = dice.choice([list, tuple])
            found = kept_days(policy, kind(days), kind(pins), today)
            self.assertEqual(found, all_kept(policy, days, pins, today), (policy, days, pins, today))
            self.assertIsInstance(found, list)
            self.assertEqual(needed_days(kind(days), kind(pins), today), all_kept(PINNED, days, pins, today))

    def test_plain_policies(self):
        days = [2, 5, 6, 9]
        for policy, pins, wanted in [
                (PINNED, [], [9]), (PINNED, [0, 1], [9]), (PINNED, [2], [2, 9]), (PINNED, [4], [2, 9]),
                (PINNED, [5], [5, 9]), (PINNED, [8, 2], [2, 6, 9]), (PINNED, [9, 10, 99], [9]),
                (AFTER, [], [9]), (AFTER, [1], [9]), (AFTER, [2], [2, 9]), (AFTER, [5], [2, 5, 9]), (AFTER, [99], days),
                (ANY, [], [9]), (ANY, [0], days), (ANY, [99], days),
                (("newest", 0), [], [9]), (("newest", 1), [], [9]), (("newest", 2), [], [6, 9]),
                (("newest", 3), [], [5, 6, 9]), (("newest", 4), [], days), (("newest", 12), [], days),
                (("young", 0), [], [9]), (("young", 3), [], [9]), (("young", 4), [], [6, 9]), (("young", 5), [], [5, 6, 9]),
                (("young", 7), [], [5, 6, 9]), (("young", 8), [], days),
                (("fresh", 0), [], [9]), (("fresh", 1), [], [6, 9]), (("fresh", 3), [], [6, 9]),
                (("fresh", 4), [], [5, 6, 9]), (("fresh", 5), [], days),
                (("not", PINNED), [4], [5, 6, 9]), (("not", ANY), [], days), (("and", ANY, ("newest", 2)), [1], [6, 9]),
                (("and", ANY, ("newest", 2)), [], [9]), (("or", PINNED, ("newest", 2)), [3], [2, 6, 9])]:
            self.assertEqual(kept_days(policy, days, pins, 10), wanted, (policy, pins))

    def test_few_days(self):
        for policy in (PINNED, ("not", ANY), ("newest", 0), ("fresh", 12)):
            for pins in ([], [0], [1], (7, 7)):
                self.assertEqual(kept_days(policy, [], pins, 1), [])
                self.assertEqual(kept_days(policy, (), pins, 9), [])
                self.assertEqual(kept_days(policy, [1], pins, 1), [1])
                self.assertEqual(kept_days(policy, (3,), pins, 10 ** 30), [3])
        self.assertEqual(needed_days([], [], 1), [])
        self.assertEqual(needed_days([1], [], 1), [1])
        self.assertEqual(needed_days((1, 10 ** 30), [10 ** 29], 10 ** 30), [1, 10 ** 30])

    def test_what_is_given_is_not_changed(self):
        days, pins = [1, 4, 6], [8, 4, 2]
        kept_days(PINNED, days, pins, 10).clear()
        needed_days(days, pins, 10).clear()
        self.assertEqual((days, pins), ([1, 4, 6], [8, 4, 2]))


class JudgeTest(unittest.TestCase):
    def hold(self, policy, today):
        """Hold what is judged of a policy against all days and pins up to a today."""
        found, lean = judge_policy(policy), judge_lean(policy)
        most = max(numbers_in(policy), default=0)
        self.assertTrue(found.shows(policy) and lean.shows(policy), policy)
        if found:
            self.assertEqual(found, KeepsAll(most))
        else:
            self.assertIsInstance(found, LosesOne)
            needed = all_kept(PINNED, found.days, [found.pin], found.today)
            self.assertFalse(set(needed) <= set(all_kept(policy, found.days, [found.pin], found.today)))
        if lean:
            self.assertEqual(lean, KeepsLittle(most))
        else:
            self.assertIsInstance(lean, KeepsMore)
            needed = all_kept(PINNED, lean.days, lean.pins, lean.today)
            self.assertFalse(set(all_kept(policy, lean.days, lean.pins, lean.today)) <= set(needed))
        for days in all_days(today) if found or lean else []:
            for pins in all_pins(today):
                kept, needed = all_kept(policy, days, pins, today), all_kept(PINNED, days, pins, today)
                self.assertTrue(not found or set(needed) <= set(kept), (policy, days, pins, today))
                self.assertTrue(not lean or set(kept) <= set(needed), (policy, days, pins, today))

    def test_small_numbers(self):
        """Whatever days, pins and todays there are: numbers up to 2 tell no more than 4 days apart."""
        dice = random.Random(272)
        answers = []
        for _ in range(250):
            policy = some_policy(dice, dice.choice([1, 2, 3, 4, 5]), 2)
            self.hold(policy, dice.randint(1, 6))
            answers.append((bool(judge_policy(policy)), bool(judge_lean(policy))))
        for answer in itertools.product([True, False], repeat=2):
            self.assertTrue(answers.count(answer) >= 3, answer)

    def test_greater_numbers(self):
        """Drawn days and pins, where it is judged that a policy never loses, or never keeps, too much."""
        dice = random.Random(273)
        for _ in range(250):
            policy = some_policy(dice, 5, 12)
            self.hold(policy, 3)
            found, lean = judge_policy(policy), judge_lean(policy)
            for _ in range(60 if found or lean else 0):
                today = dice.randint(1, 40)
                days = sorted(dice.sample(range(1, today + 1), dice.randint(0, min(today, 16))))
                pins = [dice.randint(0, today) for _ in range(dice.randint(0, 3))]
                kept, needed = all_kept(policy, days, pins, today), all_kept(PINNED, days, pins, today)
                self.assertTrue(not found or set(needed) <= set(kept), (policy, days, pins, today))
                self.assertTrue(not lean or set(kept) <= set(needed), (policy, days, pins, today))

    def test_what_is_told_at_the_greatest_numbers(self):
        """Policies that lose, or keep too much, in one place alone, as far out as numbers tell."""
        for k in (0, 1, 5, 11, 12):
            far = [("newest", k), ("young", k), ("fresh", k)]
            for part in far:
                self.assertFalse(judge_policy(part))
                self.assertFalse(judge_policy(("or", part, ("not", PINNED))))
                self.assertTrue(judge_policy(("or", part, PINNED)))
                self.assertTrue(judge_lean(("and", part, PINNED)))
                self.assertFalse(judge_lean(("not", ("or", part, PINNED))))
                self.assertEqual(bool(judge_policy(("and", AFTER, ("not", part)))), part in NEVER)
            # Something newer came at least as many days later as there are newer ones, less one.
            self.assertEqual(bool(judge_policy(("or", ("not", ("fresh", k)), ("newest", min(k + 2, 12))))), k < 11)
            self.assertEqual(bool(judge_lean(("and", ("fresh", k), ("not", ("newest", min(k + 2, 12)))))), k < 11)
            # Since a day there are more days than since a newer one.
            self.assertTrue(judge_lean(("and", ("young", k), ("not", ("fresh", max(k - 1, 0))))))
            self.assertTrue(judge_policy(("or", ("not", ("young", k)), ("fresh", max(k - 1, 0)))))
            self.assertFalse(judge_policy(("or", ("not", ("fresh", k)), ("young", 12))))
        self.assertTrue(judge_lean(("newest", 0)) and judge_lean(("newest", 1)) and not judge_lean(("newest", 2)))
        self.assertTrue(judge_lean(("young", 0)) and not judge_lean(("young", 1)) and not judge_lean(("fresh", 0)))

    def test_pins(self):
        for policy, keeps, lean in [(PINNED, True, True), (AFTER, True, False), (ANY, True, False),
                                    (("not", ANY), False, False), (("not", AFTER), False, False),
                                    (("not", PINNED), False, False), (("and", AFTER, ("not", PINNED)), False, False),
                                    (("and", ANY, ("not", ANY)), False, True), (("or", ANY, ("not", ANY)), True, False),
                                    (("and", AFTER, ("not", ANY)), False, True), (("or", PINNED, PINNED), True, True),
                                    (("and", PINNED, ("and", AFTER, ANY)), True, True),
                                    (("and", PINNED, ("not", AFTER)), False, True),
                                    (("or", ("not", ANY), AFTER), True, False),
                                    (("and", ANY, ("not", AFTER)), False, False)]:
            self.assertEqual((bool(judge_policy(policy)), bool(judge_lean(policy))), (keeps, lean), policy)
            self.hold(policy, 5)

    def test_greatest_number(self):
        for policy, most in [(PINNED, 0), (("or", PINNED, ("newest", 7)), 7), (("or", ("young", 12), PINNED), 12),
                             (("or", ("or", ("fresh", 3), ("newest", 9)), ("or", PINNED, ("young", 4))), 9),
                             (("or", PINNED, ("newest", 0)), 0)]:
            self.assertEqual(judge_policy(policy), KeepsAll(most))
            self.assertEqual(judge_lean(("and", PINNED, policy)), KeepsLittle(most))
            for other in (most - 1, most + 1, -1, 10 ** 30):
                self.assertFalse(KeepsAll(other).shows(policy))
                self.assertFalse(KeepsLittle(other).shows(("and", PINNED, policy)))

    def test_8_within_one_another(self):
        policy = PINNED
        for _ in range(7):
            policy = ("not", policy)
        self.assertFalse(judge_policy(policy) or judge_lean(policy))
        self.assertTrue(judge_policy(policy[1]) and judge_lean(policy[1]))
        self.assertEqual(kept_days(policy, [1, 3], [1], 4), [3])
        for nine in (("not", policy), ("and", policy, PINNED), ("or", PINNED, policy)):
            for call in (judge_policy, judge_lean, lambda told: kept_days(told, [], [], 1)):
                self.assertRaises(BadPolicy, call, nine)
        wide = ("newest", 12)
        for deep in range(7):
            wide = (("or", "and")[deep % 2], wide, wide)
        self.assertFalse(judge_policy(wide))
        self.assertFalse(judge_lean(wide))


class EvidenceTest(unittest.TestCase):
    def test_loses_one(self):
        policy = ("or", ("newest", 3), ("young", 5))
        self.assertTrue(LosesOne([1, 7, 8, 9], 1, 9).shows(policy))
        self.assertTrue(LosesOne((1, 7, 8, 9), 6, 9).shows(policy))
        for days, pin, today in [([1, 7, 8, 9], 7, 9), ([1, 7, 8, 9], 0, 9), ([1, 7, 8, 9], -1, 9), ([1, 7, 8, 9], 1, 8),
                                 ([1, 7, 8], 1, 9), ([3, 7, 8, 9], 3, 8), ([4, 7, 8, 9], 4, 9), ([], 1, 9), ([1], 1, 1),
                                 ([0, 7, 8, 9], 1, 9), ([1, 7, 7, 8, 9], 1, 9), ([9, 8, 7, 1], 1, 9), ([1, 7, 8, 9], 1, 0),
                                 ([1, 7, 8, 9], 1, -9), ([1, 7, 8, 9], 10 ** 30, 9), ([1, 7, 9, 8], 1, 9)]:
            self.assertFalse(LosesOne(days, pin, today).shows(policy), (days, pin, today))
        found = judge_policy(policy)
        self.assertFalse(found.shows(PINNED))
        found.pin = found.today
        self.assertFalse(found.shows(policy))
        self.assertFalse(KeepsAll(5).shows(policy))

    def test_keeps_more(self):
        self.assertTrue(KeepsMore([1, 3], [3], 3).shows(AFTER))
        self.assertTrue(KeepsMore((1, 3), (7, 9), 3).shows(AFTER))
        for days, pins, today in [([1, 3], [1], 3), ([1, 3], [], 3), ([1, 3], [0], 3), ([3], [3], 3), ([], [3], 3),
                                  ([1, 3], [3, -1], 3), ([1, 3], [3], 2), ([0, 3], [3], 3), ([3, 1], [3], 3),
                                  ([1, 1], [3], 3), ([1, 3], [3], -3), ([1, 3], [3], 0), ([1, 3], [3, 2], 3)]:
            self.assertFalse(KeepsMore(days, pins, today).shows(AFTER), (days, pins, today))
        found = judge_lean(AFTER)
        self.assertFalse(found.shows(PINNED))
        found.days = found.days[1:]
        self.assertFalse(found.shows(AFTER))
        self.assertFalse(KeepsLittle(0).shows(AFTER))

    def test_equal(self):
        self.assertTrue(KeepsAll(3) == KeepsAll(3) and KeepsAll(3) != KeepsAll(4) and KeepsAll(3) != KeepsLittle(3))
        self.assertTrue(KeepsLittle(3) == KeepsLittle(3) and KeepsLittle(3) != KeepsLittle(4) and KeepsLittle(3) != 3)
        loses, more = LosesOne([1, 2], 1, 2), KeepsMore([1, 2], [1], 2)
        self.assertTrue(loses == LosesOne((1, 2), 1, 2) and more == KeepsMore((1, 2), (1,), 2) and loses != more)
        for other in (LosesOne([1], 1, 2), LosesOne([1, 2], 2, 2), LosesOne([1, 2], 1, 3), None, KeepsAll(1)):
            self.assertTrue(loses != other)
        for other in (KeepsMore([1], [1], 2), KeepsMore([1, 2], [], 2), KeepsMore([1, 2], [1], 3), None, loses):
            self.assertTrue(more != other)
        self.assertEqual([bool(told) for told in (KeepsAll(0), KeepsLittle(0), loses, more)], [True, True, False, False])

    def test_copied(self):
        days, pins = [1, 2], [1]
        loses, more = LosesOne(days, 1, 2), KeepsMore(days, pins, 2)
        days.append(3)
        pins.clear()
        self.assertEqual((loses.days, more.days, more.pins), ([1, 2], [1, 2], [1]))
        for told in (LosesOne((1, 2), 1, 2).days, KeepsMore((1, 2), (1,), 2).days, KeepsMore((1, 2), (1,), 2).pins):
            self.assertIsInstance(told, list)


class WrongInputsTest(unittest.TestCase):
    def test_no_policy(self):
        for wrong in NO_POLICIES:
            for call in (judge_policy, judge_lean, KeepsAll(0).shows, LosesOne([1, 2], 1, 2).shows, KeepsLittle(0).shows,
                         KeepsMore([1, 2], [1], 2).shows, LosesOne([], 1, -2).shows,
                         lambda policy: kept_days(policy, None, None, None)):
                self.assertRaises(BadPolicy, call, wrong)
                self.assertRaises(BadPolicy, call, ("not", ("or", PINNED, wrong)))

    def test_no_days(self):
        for call in (lambda *told: kept_days(PINNED, *told), needed_days):
            for wrong in (NO_DAYS + [[wrong] for wrong in NO_DAY] + [(1, wrong) for wrong in NO_DAY]
                          + [[11], [1, 11], [2, 1], [3, 3], (1, 5, 4), [1, 10 ** 30]]):
                with self.assertRaises(BadDay) as caught:
                    call(wrong, [1], 10)
                self.assertNotIsInstance(caught.exception, errors.BadDay)
            for wrong in NO_TODAYS:
                self.assertRaises(BadDay, call, [], [1], wrong)
            for wrong in NO_PINS:
                self.assertRaises(BadDay, call, [1, 2], wrong, 10)


if __name__ == "__main__":
    unittest.main()
