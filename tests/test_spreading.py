"""Point [11] and the interface's section spreading.py."""

import random
import unittest

from playing import FAR, NO_NUMBERS, NO_RULES, PLAIN_RULES, played, some_rules
from siltstore import spreading
from siltstore.days import day_made, next_baked
from siltstore.errors import BadDay, BadRule
from siltstore.rules import Rule
from siltstore.spreading import InTime, Late, judge_spread, least_budget, left_over
from siltstore.weights import Weights

TWO = Rule([], [(2, 2)])
RULES = PLAIN_RULES + some_rules(111, 12, 4) + some_rules(112, 4)
FAR_OFF = 10 ** 30


def worked(rule, budget, last):
    """The bakes worked on day by day: those that are late, as pairs of the day on which they are due and the grade;
    the days on which bakes are due for each grade; and what is left behind each day, from day 0 on."""
    late, due, left = [], {}, [{}]
    open_bakes = {}
    for play in played(rule, last):
        for grade in play.baked:
            if grade in open_bakes:
                due.setdefault(grade, []).append(play.day)
                if open_bakes[grade][-1] > 0:
                    late.append((play.day, grade))
            open_bakes.setdefault(grade, []).append(rule.size(grade + 1))
        spare = budget
        for grade in sorted(open_bakes):
            for number, size in enumerate(open_bakes[grade]):
                done = min(spare, size)
                spare -= done
                open_bakes[grade][number] -= done
        left.append({grade: sum(sizes) for grade, sizes in sorted(open_bakes.items()) if sum(sizes)})
    return late, due, left


class WorkedTest(unittest.TestCase):
    def test_judged(self):
        for rule in RULES:
            for budget in range(1, 7):
                late, due, _ = worked(rule, budget, 200)
                for days in list(range(40)) + list(range(40, 201, 9)):
                    found = judge_spread(rule, budget, days)
                    early = [(day, grade) for day, grade in late if day <= days]
                    if early:
                        self.assertEqual(found, Late(early[0][1], early[0][0]))
                    else:
                        self.assertEqual(found, InTime(len([grade for grade in due if due[grade][0] <= days])))
                    self.assertIs(found.shows(rule, budget, days), True)
                    self.assertIs(bool(found), not early)

    def test_least_budget(self):
        for rule in RULES:
            late = {budget: worked(rule, budget, 200)[0] for budget in range(1, 9)}
            for days in range(0, 201, 3):
                enough = [budget for budget in late if not [day for day, _ in late[budget] if day <= days]]
                self.assertEqual(least_budget(rule, days), enough[0])
                self.assertEqual(enough, list(range(enough[0], 9)))

    def test_left_over(self):
        for rule in RULES:
            for budget in (1, 2, 3, 7):
                left = worked(rule, budget, 150)[2]
                for day in list(range(30)) + [64, 100, 149, 150]:
                    found = left_over(rule, budget, day)
                    self.assertEqual(list(found.items()), list(left[day].items()))


class ExamplesTest(unittest.TestCase):
    def test_example(self):
        told = [judge_spread(TWO, 3, 100).day, least_budget(TWO, 100), left_over(TWO, 2, 9),
                judge_spread(TWO, 5, 100).grades]
        self.assertEqual(told, [32, 5, {1: 2, 2: 8}, 5])

    def test_names(self):
        for name in ("InTime", "Late", "judge_spread", "least_budget", "left_over"):
            self.assertEqual(getattr(spreading, name).__module__, "siltstore.spreading")
        for kind in (InTime, Late):
            for name in ("__init__", "__eq__", "shows"):
                self.assertIn(name, vars(kind))
        self.assertEqual(judge_spread(rule=TWO, budget=3, days=100), Late(grade=3, day=32))
        self.assertEqual(judge_spread(rule=TWO, budget=5, days=100), InTime(grades=5))
        self.assertTrue(InTime(grades=5).shows(rule=TWO, budget=5, days=100))
        self.assertTrue(Late(grade=3, day=32).shows(rule=TWO, budget=3, days=100))
        self.assertEqual([least_budget(rule=TWO, days=100), left_over(rule=TWO, budget=2, day=9)], [5, {1: 2, 2: 8}])

    def test_budgets_around_the_least_one(self):
        for rule in RULES:
            for days in (0, 5, 50, 10 ** 6, FAR_OFF, 10 ** 300):
                least = least_budget(rule, days)
                self.assertGreaterEqual(least, 1)
                for budget in (least, least + 1, 10 ** 30):
                    self.assertIs(bool(judge_spread(rule, budget, days)), True)
                if least > 1:
                    found = judge_spread(rule, least - 1, days)
                    self.assertEqual(found, Late(least - 1, day_made(rule, least, 2)))
                    self.assertLessEqual(found.day, days)
                    self.assertTrue(judge_spread(rule, least - 1, found.day - 1))
                    self.assertEqual(judge_spread(rule, least - 1, found.day), found)
                    self.assertEqual([least_budget(rule, found.day - 1), least_budget(rule, found.day)],
                                     [max(1, least - 1), least])
                    self.assertEqual(judge_spread(rule, least, days).grades, least)

    def test_budget_of_1(self):
        # The first bake of the grade 1 comes up on day 4, when those of the grade 0 take all.
        self.assertEqual([judge_spread(TWO, 1, days) for days in (7, 8, FAR_OFF)],
                         [InTime(1), Late(1, 8), Late(1, 8)])
        self.assertEqual(left_over(TWO, 1, 7), {1: 4})

    def test_no_bake_is_due_yet(self):
        for rule in RULES:
            first = day_made(rule, 1, 2)
            self.assertEqual(next_baked(rule, 0, next_baked(rule, 0, 0)), first)
            for days in (0, 1, first - 1):
                for budget in (1, 2, 10 ** 30):
                    self.assertEqual(judge_spread(rule, budget, days), InTime(0))
                self.assertEqual(least_budget(rule, days), 1)
            self.assertEqual(judge_spread(rule, 1, first), InTime(1))

    def test_far_days(self):
        for rule in PLAIN_RULES:
            for days in FAR + [10 ** 3000]:
                least = least_budget(rule, days)
                found = judge_spread(rule, least, days)
                self.assertEqual(found, InTime(least))
                self.assertLessEqual(day_made(rule, least, 2), days)
                self.assertGreater(day_made(rule, least + 1, 2), days)
                self.assertEqual(judge_spread(rule, 2, days), Late(2, day_made(rule, 3, 2)))

    def test_left_over_up_to_day_3000(self):
        for rule in PLAIN_RULES[:4]:
            for budget in (1, 4, 10 ** 30):
                self.assertEqual(left_over(rule, budget, 0), {})
                for day in (3001, 3002, 10 ** 30):
                    self.assertRaises(BadDay, left_over, rule, budget, day)
            self.assertEqual(left_over(rule, 10 ** 30, 3000), {})
        self.assertEqual(left_over(TWO, 2, 3000), worked(TWO, 2, 3000)[2][3000])
        left = left_over(TWO, 2, 3000)
        self.assertEqual(list(left), sorted(left))
        # Day 3000 bakes the grades 0, 1 and 2; only the grade 0 is done at once.
        self.assertEqual(list(left), list(range(1, 11)))

    def test_what_is_left_is_new(self):
        left_over(TWO, 2, 9).clear()
        self.assertEqual(left_over(TWO, 2, 9), {1: 2, 2: 8})


class EvidenceTest(unittest.TestCase):
    def test_does_not_show_anything_else(self):
        for rule in RULES:
            for days in (0, 9, 100, FAR_OFF):
                least = least_budget(rule, days)
                for budget in (1, 2, least, max(1, least - 1), least + 3):
                    found = judge_spread(rule, budget, days)
                    grades = found.grades if found else least
                    for number in (grades - 1, grades + 1, -1, -10 ** 30, 10 ** 30, budget + 1):
                        if number != grades:
                            self.assertIs(InTime(number).shows(rule, budget, days), False)
                    self.assertIs(InTime(grades).shows(rule, budget, days), bool(found))
                    due = day_made(rule, budget + 1, 2)
                    self.assertIs(Late(budget, due).shows(rule, budget, days), not found)
                    for grade, day in [(budget, due + 1), (budget, due - 1), (budget + 1, due), (budget - 1, due),
                                       (-1, due), (budget, -due), (budget + 1, day_made(rule, budget + 2, 2)),
                                       (10 ** 30, due), (budget, 10 ** 40), (-budget, due)]:
                        self.assertIs(Late(grade, day).shows(rule, budget, days), False)

    def test_other_arguments(self):
        found = judge_spread(TWO, 5, 100)
        self.assertEqual([found.shows(TWO, 5, 63), found.shows(TWO, 5, 64), found.shows(TWO, 9, 64),
                          found.shows(TWO, 4, 100), found.shows(TWO, 5, 128), found.shows(PLAIN_RULES[3], 5, 100)],
                         [False, True, True, False, False, False])
        late = judge_spread(TWO, 3, 100)
        self.assertEqual([late.shows(TWO, 3, 32), late.shows(TWO, 3, 31), late.shows(TWO, 2, 32),
                          late.shows(TWO, 4, 100), late.shows(TWO, 3, FAR_OFF), late.shows(PLAIN_RULES[1], 3, 100)],
                         [True, False, False, False, True, False])

    def test_changed_attributes(self):
        found, late = judge_spread(TWO, 5, 100), judge_spread(TWO, 3, 100)
        found.grades, late.grade, late.day = 6, 4, 64
        self.assertEqual([found.shows(TWO, 5, 100), found.shows(TWO, 6, 128), late.shows(TWO, 3, 100),
                          late.shows(TWO, 4, 100)], [False, True, False, True])

    def test_equal(self):
        for one, like, unlike in [(InTime(3), InTime(3), [InTime(2), Late(3, 3), None, 3, (3,)]),
                                  (Late(3, 9), Late(3, 9), [Late(3, 8), Late(2, 9), InTime(3), None, (3, 9)])]:
            self.assertTrue(one == like)
            self.assertFalse(one != like)
            for other in unlike:
                self.assertFalse(one == other)
                self.assertTrue(one != other)

    def test_bool(self):
        self.assertEqual([bool(InTime(0)), bool(InTime(-1)), bool(Late(0, 0)), bool(Late(3, 9))],
                         [True, True, False, False])


class WrongInputsTest(unittest.TestCase):
    def calls(self, rule, budget, days):
        return [lambda: judge_spread(rule, budget, days), lambda: left_over(rule, budget, days),
                lambda: InTime(1).shows(rule, budget, days), lambda: Late(1, 1).shows(rule, budget, days)]

    def test_no_budget_and_no_day(self):
        for wrong in NO_NUMBERS:
            for call in self.calls(TWO, wrong, 9) + self.calls(TWO, 2, wrong) + [lambda: least_budget(TWO, wrong)]:
                self.assertRaises(BadDay, call)
        for call in self.calls(TWO, 0, 9) + self.calls(TWO, 0, 0):
            self.assertRaises(BadDay, call)

    def test_no_rule_is_ahead_of_all(self):
        for wrong in NO_RULES + [Weights([], [1])]:
            for budget, days in [(2, 9), (0, 9), (2, -1), (True, 9), (2, 3001)]:
                for call in self.calls(wrong, budget, days) + [lambda: least_budget(wrong, days)]:
                    with self.assertRaises(BadRule) as caught:
                        call()
                    self.assertIsNone(caught.exception.place)

    def test_what_is_refused_changes_nothing(self):
        found, late = InTime(5), Late(3, 32)
        for wrong in (0, None):
            self.assertRaises(BadDay, found.shows, TWO, wrong, 100)
            self.assertRaises(BadDay, late.shows, TWO, wrong, 100)
        self.assertEqual((found, late), (InTime(5), Late(3, 32)))

    def test_the_rule_stays(self):
        rule = Rule([(3, 2)], [(4, 4)])
        for call in self.calls(rule, 2, 99) + [lambda: least_budget(rule, 99)]:
            call()
            self.assertEqual(rule, Rule([(3, 2)], [(4, 4)]))


if __name__ == "__main__":
    unittest.main()
