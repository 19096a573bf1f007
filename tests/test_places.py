"""Point [4] and the interface's section places.py."""

import random
import unittest

from playing import FAR, NO_NUMBERS, NO_RULES, PLAIN_RULES, played, some_rules
from siltstore import places
from siltstore.days import baked, layers
from siltstore.errors import BadDay, BadRule
from siltstore.places import day_in, hardest, place, resting, stay, together, work, work_on
from siltstore.rules import Rule
from siltstore.weights import Weights

DAYS = 70
RULES = PLAIN_RULES + some_rules(21, 10, 4) + some_rules(22, 5)


class PlayedTest(unittest.TestCase):
    """Each function, held against stores that are played."""

    def test_where_each_day_lies_on_each_later_one(self):
        for rule in RULES:
            for play in played(rule, DAYS):
                found = [place(rule, day, play.day) for day in range(1, play.day + 1)]
                self.assertEqual(found, play.places())

    def test_first_days_in_a_grade(self):
        for rule in RULES:
            on_day = [play.places() for play in played(rule, DAYS)]
            for day in range(1, DAYS + 1):
                for grade in range(5):
                    found = day_in(rule, day, grade)
                    self.assertGreaterEqual(found, day)
                    for now in range(day, DAYS + 1):
                        self.assertEqual(on_day[now - 1][day - 1][0] >= grade, now >= found)

    def test_stays(self):
        for rule in RULES:
            on_day = [play.places() for play in played(rule, DAYS)]
            for day in range(1, DAYS + 1):
                grades = [on_day[now - 1][day - 1][0] for now in range(day, DAYS + 1)]
                for grade in range(grades[-1]):
                    inside = [day + more for more, lain in enumerate(grades) if lain == grade]
                    self.assertEqual(stay(rule, day, grade), (inside[0], inside[-1]) if inside else None)
                first, last = stay(rule, day, grades[-1])
                self.assertEqual(first, day + grades.index(grades[-1]))
                self.assertGreaterEqual(last, DAYS)

    def test_when_two_days_come_together(self):
        for rule in RULES:
            on_day = [play.places() for play in played(rule, DAYS)]
            for day in range(1, DAYS + 1):
                for other in range(1, DAYS + 1):
                    found = together(rule, day, other)
                    same = [now for now in range(max(day, other), DAYS + 1)
                            if on_day[now - 1][day - 1] == on_day[now - 1][other - 1]]
                    if same:
                        self.assertEqual(found, same[0])
                    else:
                        self.assertGreater(found, DAYS)

    def test_work(self):
        for rule in RULES:
            total, greatest, at, rests = 0, 0, None, 0
            for play in played(rule, 400):
                total += play.work_on
                if play.work_on > greatest:
                    greatest, at = play.work_on, play.day
                if not play.baked:
                    rests += 1
                self.assertEqual(work_on(rule, play.day), play.work_on)
                self.assertEqual(work(rule, play.day), total)
                self.assertEqual(hardest(rule, play.day), at)
                self.assertEqual(resting(rule, play.day), rests)


class ExamplesTest(unittest.TestCase):
    def test_example(self):
        rule = Rule([], [(3, 2)])
        told = [place(rule, 7, 9), day_in(rule, 3, 2), stay(rule, 3, 1), together(rule, 2, 3), work(rule, 7),
                work_on(rule, 7), hardest(rule, 20)]
        self.assertEqual(told, [(1, 2), 7, (5, 6), 7, 10, 6, 15])

    def test_names(self):
        for name in ("place", "day_in", "stay", "together", "work", "work_on", "hardest", "resting"):
            self.assertEqual(getattr(places, name).__module__, "siltstore.places")
        rule = Rule([], [(3, 2)])
        told = [place(rule=rule, day=7, now=9), day_in(rule=rule, day=3, grade=2), stay(rule=rule, day=3, grade=1),
                together(rule=rule, day=2, other=3), work(rule=rule, day=7), work_on(rule=rule, day=7),
                hardest(rule=rule, day=20), resting(rule=rule, day=7)]
        self.assertEqual(told, [(1, 2), 7, (5, 6), 7, 10, 6, 15, 4])

    def test_pairs_are_tuples(self):
        rule = Rule([], [(3, 2)])
        for found in (place(rule, 7, 9), stay(rule, 3, 1)):
            self.assertIs(type(found), tuple)
            self.assertEqual([type(part) for part in found], [int, int])

    def test_day_0_and_day_1(self):
        for rule in RULES:
            self.assertEqual([work(rule, 0), work_on(rule, 0), hardest(rule, 0), resting(rule, 0)], [0, 0, None, 0])
            self.assertEqual([work(rule, 1), work_on(rule, 1), hardest(rule, 1), resting(rule, 1)], [0, 0, None, 1])
            self.assertEqual([place(rule, 1, 1), day_in(rule, 1, 0), together(rule, 1, 1)], [(0, 0), 1, 1])

    def test_a_day_on_itself(self):
        rule = Rule([], [(2, 2)])
        self.assertEqual([place(rule, day, day) for day in range(1, 9)],
                         [(0, 0), (1, 0), (0, 1), (2, 0), (0, 1), (1, 1), (0, 2), (3, 0)])
        for rule in RULES:
            for day in [1, 2, 3, 12, 77, 10 ** 30]:
                found = layers(rule, day)
                self.assertEqual(place(rule, day, day), (found[-1][2], len(found) - 1))
                self.assertEqual([together(rule, day, day), day_in(rule, day, 0)], [day, day])

    def test_grades_in_which_a_day_never_lies(self):
        rule = Rule([], [(2, 2)])
        self.assertEqual([stay(rule, day, 0) for day in range(1, 5)], [(1, 1), None, (3, 3), None])
        self.assertEqual([stay(rule, day, 1) for day in range(1, 6)], [(2, 3), (2, 3), None, None, (6, 7)])
        self.assertEqual([stay(rule, 4, 2), stay(rule, 5, 2), stay(rule, 4, 3)], [(4, 7), None, (8, 15)])
        lazy = Rule([], [(3, 2)])
        for day in range(1, 99):
            for grade in range(6):
                self.assertIsNotNone(stay(lazy, day, grade))

    def test_stay_in_the_grade_0(self):
        self.assertEqual([stay(Rule([], [(4, 3)]), day, 0) for day in range(1, 7)],
                         [(1, 3), (2, 3), (3, 3), (4, 6), (5, 6), (6, 6)])

    def test_hardest_is_the_first_of_as_hard_ones(self):
        rule = Rule([], [(2, 2)])
        self.assertEqual([hardest(rule, day) for day in range(9)], [None, None, 2, 2, 4, 4, 4, 4, 8])
        rule = Rule([(12, 12)], [(2, 2)])
        self.assertEqual([hardest(rule, day) for day in (11, 12, 13, 23, 24, 36, 47, 48)],
                         [None, 12, 12, 12, 24, 24, 24, 48])

    def test_nothing_is_baked(self):
        rule = Rule([], [(12, 2)])
        self.assertEqual([hardest(rule, 11), work(rule, 11), resting(rule, 11)], [None, 0, 11])
        self.assertEqual([hardest(rule, 12), work(rule, 12), resting(rule, 12)], [12, 2, 11])

    def test_together_does_not_ask_for_an_order(self):
        for rule in RULES:
            for day, other in [(1, 2), (3, 70), (10 ** 30, 7), (10 ** 30, 10 ** 30 + 1)]:
                self.assertEqual(together(rule, day, other), together(rule, other, day))


class FarDaysTest(unittest.TestCase):
    def test_places(self):
        dice = random.Random(26)
        for rule in RULES:
            for now in FAR:
                found = layers(rule, now)
                for number in {0, len(found) - 1} | {dice.randrange(len(found)) for _ in range(10)}:
                    first, last, grade = found[number]
                    for day in (first, (first + last) // 2, last):
                        self.assertEqual(place(rule, day, now), (grade, number))

    def test_days_in_and_stays(self):
        dice = random.Random(23)
        for rule in RULES:
            for far in FAR:
                day = dice.randint(1, far)
                for grade in (0, 1, 2, 3, 17, 50):
                    first, behind = day_in(rule, day, grade), day_in(rule, day, grade + 1)
                    self.assertGreaterEqual(place(rule, day, first)[0], grade)
                    self.assertEqual(first == day or place(rule, day, first - 1)[0] < grade, True)
                    if first == behind:
                        self.assertIsNone(stay(rule, day, grade))
                        self.assertGreater(place(rule, day, first)[0], grade)
                    else:
                        self.assertEqual(stay(rule, day, grade), (first, behind - 1))
                        self.assertEqual([place(rule, day, first)[0], place(rule, day, behind - 1)[0]], [grade] * 2)

    def test_together(self):
        dice = random.Random(24)
        for rule in RULES:
            for far in FAR:
                day = dice.randint(1, far)
                for other in (dice.randint(1, far), day + 1, day + 5, 1, far):
                    now = together(rule, day, other)
                    self.assertGreaterEqual(now, max(day, other))
                    self.assertEqual(place(rule, day, now), place(rule, other, now))
                    if now > max(day, other):
                        self.assertNotEqual(place(rule, day, now - 1), place(rule, other, now - 1))

    def test_work_grows_by_the_work_of_each_day(self):
        for rule in RULES:
            for far in FAR + [rule.owed(40) + rule.size(40) - 3]:
                for day in range(far, far + 6):
                    self.assertEqual(work(rule, day) - work(rule, day - 1), work_on(rule, day))
                    self.assertEqual(work_on(rule, day), sum(rule.size(grade + 1) for grade in baked(rule, day)))
                    self.assertEqual(resting(rule, day) - resting(rule, day - 1), 0 if baked(rule, day) else 1)

    def test_work_and_rest_up_to_a_far_day(self):
        two, twelve = Rule([], [(2, 2)]), Rule([], [(12, 2)])
        self.assertEqual(work(two, 2 ** 200), 200 * 2 ** 200)
        self.assertEqual(work_on(two, 2 ** 200), 2 ** 201 - 2)
        self.assertEqual([resting(two, 10 ** 30), resting(twelve, 10 ** 30)], [5 * 10 ** 29, 5 * 10 ** 29 + 5])

    def test_hardest(self):
        dice = random.Random(25)
        for rule in RULES:
            for far in FAR:
                day = hardest(rule, far)
                self.assertLessEqual(day, far)
                self.assertLess(work_on(rule, hardest(rule, day - 1)), work_on(rule, day))
                self.assertEqual(hardest(rule, day), day)
                for tried in [far, far - 1] + [dice.randint(1, far) for _ in range(5)]:
                    self.assertLessEqual(work_on(rule, tried), work_on(rule, day))

    def test_days_with_thousands_of_figures(self):
        day = 10 ** 3000 + 7
        for rule in PLAIN_RULES[:4]:
            self.assertEqual(place(rule, day, day)[1], len(layers(rule, day)) - 1)
            self.assertEqual([together(rule, day, day), day_in(rule, day, 0)], [day, day])
            self.assertLess(work_on(rule, hardest(rule, day) - 1), work_on(rule, hardest(rule, day)))
            self.assertEqual(work(rule, day) - work(rule, day - 1), work_on(rule, day))
            self.assertLess(resting(rule, day), day)
            self.assertEqual(place(rule, 1, together(rule, 1, day)), place(rule, day, together(rule, 1, day)))


class WrongInputsTest(unittest.TestCase):
    def calls(self, rule, day):
        """Calls that pass something as one of their days or grades."""
        return [lambda: work(rule, day), lambda: work_on(rule, day), lambda: hardest(rule, day),
                lambda: resting(rule, day), lambda: day_in(rule, 3, day), lambda: stay(rule, 3, day)] + \
            self.calls_from_1(rule, day)

    def calls_from_1(self, rule, day):
        return [lambda: place(rule, day, 9), lambda: place(rule, 1, day), lambda: day_in(rule, day, 1),
                lambda: stay(rule, day, 1), lambda: together(rule, day, 3), lambda: together(rule, 3, day)]

    def test_no_day(self):
        for wrong in NO_NUMBERS:
            for call in self.calls(Rule([], [(3, 2)]), wrong):
                self.assertRaises(BadDay, call)

    def test_day_0_lies_nowhere(self):
        rule = Rule([], [(3, 2)])
        for call in self.calls_from_1(rule, 0) + [lambda: place(rule, 0, 0)]:
            self.assertRaises(BadDay, call)

    def test_a_day_behind_the_other_one(self):
        rule = Rule([], [(3, 2)])
        for day, now in [(1, 0), (2, 1), (10, 9), (10 ** 30 + 1, 10 ** 30)]:
            self.assertRaises(BadDay, place, rule, day, now)
            self.assertEqual(place(rule, day, now + 1), place(rule, now + 1, now + 1))

    def test_no_rule_is_ahead_of_all(self):
        for wrong in NO_RULES + [Weights([], [1])]:
            for day in (0, -1, True, 5):
                for call in self.calls(wrong, day):
                    with self.assertRaises(BadRule) as caught:
                        call()
                    self.assertIsNone(caught.exception.place)

    def test_the_rule_stays(self):
        rule = Rule([(3, 2)], [(4, 4)])
        for call in self.calls(rule, 5):
            call()
            self.assertEqual(rule, Rule([(3, 2)], [(4, 4)]))


if __name__ == "__main__":
    unittest.main()
