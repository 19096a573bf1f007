"""Point [10] and the interface's section cheapest.py."""

import random
import unittest

from playing import FAR, NO_NUMBERS, NO_RULES, PLAIN_RULES, played, some_pair, some_rules
from siltstore import cheapest as cheapest_file
from siltstore.cheapest import Cheapest, cheapest, outdone
from siltstore.counts import count, most
from siltstore.errors import BadChoices, BadDay
from siltstore.places import work
from siltstore.rules import Rule
from siltstore.spreading import InTime
from siltstore.weights import Weights

DAYS = 130
EXAMPLE = [Rule([], [(2, 2)]), Rule([], [(4, 4)]), Rule([], [(10, 10)])]
NO_CHOICES = [None, 3, "rules", [], (), {}, {0: EXAMPLE[0]}, EXAMPLE[0], EXAMPLE * 14, (EXAMPLE[0],) * 41,
              iter(EXAMPLE), [None] * 41]


def some_choices(dice):
    many = dice.randint(1, 8)
    rules = [Rule([some_pair(dice, 5) for _ in range(dice.randint(0, 1))], [some_pair(dice, 5)]) for _ in range(many)]
    return [dice.choice(rules) for _ in range(many)]


def tables(choices):
    """For each choice the numbers of layers and the work up to each day, from day 0 on, played."""
    found = []
    for rule in choices:
        numbers, works = [0], [0]
        for play in played(rule, DAYS):
            numbers.append(len(play.layers))
            works.append(works[-1] + play.work_on)
        found.append((numbers, works))
    return found


class PlayedTest(unittest.TestCase):
    def test_cheapest(self):
        dice = random.Random(101)
        for _ in range(60):
            choices = some_choices(dice)
            told = tables(choices)
            for _ in range(12):
                days, number = dice.randint(0, DAYS), dice.randint(0, 12)
                fit = [place for place, (numbers, _) in enumerate(told) if max(numbers[:days + 1]) <= number]
                found = cheapest(choices, number, days)
                if not fit:
                    self.assertIsNone(found)
                    continue
                works = [works[days] for _, works in told]
                best = [place for place in fit if works[place] == min(works[other] for other in fit)][0]
                cheaper = [place for place, done in enumerate(works)
                           if done < works[best] or done == works[best] and place < best]
                against = {place: [day for day in range(days + 1) if told[place][0][day] > number][0]
                           for place in cheaper}
                self.assertEqual((found.place, found.against), (best, against))
                self.assertIs(found.shows(choices, number, days), True)

    def test_outdone(self):
        dice = random.Random(102)
        seen = 0
        for _ in range(60):
            choices = some_choices(dice)
            told = tables(choices)
            for days in [0, 1, DAYS] + [dice.randint(2, DAYS) for _ in range(8)]:
                wanted = {}
                for place, (numbers, works) in enumerate(told):
                    better = [other for other, (few, less) in enumerate(told) if other != place
                              and less[days] < works[days] and max(few[:days + 1]) <= max(numbers[:days + 1])]
                    if better:
                        wanted[place] = better[0]
                found = outdone(choices, days)
                self.assertEqual(list(found.items()), list(wanted.items()))
                seen += len(found)
        self.assertGreater(seen, 100)


class ExamplesTest(unittest.TestCase):
    def test_example(self):
        told = [cheapest(EXAMPLE, 9, 100).place, cheapest(EXAMPLE, 9, 100).against, cheapest(EXAMPLE, 2, 100),
                outdone(EXAMPLE, 7)]
        self.assertEqual(told, [1, {2: 19}, None, {}])

    def test_names(self):
        for name in ("Cheapest", "cheapest", "outdone"):
            self.assertEqual(getattr(cheapest_file, name).__module__, "siltstore.cheapest")
        for name in ("__init__", "__eq__", "shows"):
            self.assertIn(name, vars(Cheapest))
        found = cheapest(choices=EXAMPLE, most=9, days=100)
        self.assertEqual(found, Cheapest(place=1, against={2: 19}))
        self.assertTrue(found.shows(choices=EXAMPLE, most=9, days=100))
        self.assertEqual(outdone(choices=tuple(EXAMPLE), days=7), {})

    def test_days_0(self):
        for number in (0, 1, 400):
            self.assertEqual(cheapest(EXAMPLE, number, 0), Cheapest(0, {}))
        self.assertEqual(outdone(EXAMPLE, 0), {})
        self.assertIsNone(cheapest(EXAMPLE, 0, 1))
        self.assertEqual(cheapest(EXAMPLE, 1, 1), Cheapest(0, {}))

    def test_only_just_so_many(self):
        for rule in PLAIN_RULES + some_rules(103, 10):
            for days in (1, 7, 100, 10 ** 9, 10 ** 30):
                number = most(rule, days).number
                self.assertEqual(cheapest([rule], number, days), Cheapest(0, {}))
                self.assertIsNone(cheapest([rule], number - 1, days))
                first = most(rule, days).day
                self.assertEqual(cheapest([rule], number - 1, first - 1), Cheapest(0, {}))
                self.assertIsNone(cheapest((rule,), number - 1, first))

    def test_the_first_day_with_more_layers(self):
        lazy, quick = Rule([], [(12, 12)]), Rule([], [(2, 2)])
        self.assertEqual(cheapest([quick, lazy], 10, 100), Cheapest(0, {1: 11}))
        self.assertEqual(cheapest([lazy, quick], 10, 11), Cheapest(1, {0: 11}))
        self.assertEqual(cheapest([lazy, quick], 10, 10), Cheapest(0, {}))
        self.assertEqual(cheapest([quick, lazy], 11, 11), Cheapest(1, {}))

    def test_as_much_work(self):
        # Up to day 3 both have baked two layers once, and the lazy one has not had more than 2.
        lazy, quick = Rule([], [(3, 2)]), Rule([], [(2, 2)])
        self.assertEqual([work(lazy, 3), work(quick, 3), most(lazy, 3).number, most(quick, 3).number], [2, 2, 2, 2])
        self.assertEqual(cheapest([quick, lazy], 2, 3), Cheapest(0, {}))
        self.assertEqual(cheapest([lazy, quick], 2, 3), Cheapest(0, {}))
        # Behind it the lazy one is less work, but has a third layer on day 4.
        self.assertEqual([work(lazy, 4), work(quick, 4), work(lazy, 5), work(quick, 5)], [2, 8, 4, 8])
        self.assertEqual(cheapest([quick, lazy], 2, 4), Cheapest(0, {1: 4}))
        self.assertEqual(cheapest([quick, lazy], 3, 4), Cheapest(1, {}))

    def test_as_much_work_ahead_with_too_many_layers(self):
        # 4 layers are baked on day 4, or 2 on day 3 and then 2 more on day 5.
        four, two = Rule([(4, 4)], [(4, 4)]), Rule([(3, 2)], [(4, 4)])
        self.assertEqual([work(four, 5), work(two, 5), most(four, 5).number, most(two, 5).number], [4, 4, 3, 3])
        late, early = Rule([(5, 4)], [(9, 9)]), Rule([(3, 2)], [(9, 9)])
        self.assertEqual([work(late, 6), work(early, 6), most(late, 6).number, most(early, 6).number], [4, 4, 4, 4])
        self.assertEqual([work(late, 5), work(early, 5), most(late, 5).number, most(early, 5).number], [4, 4, 4, 3])
        self.assertEqual(cheapest([late, early], 3, 5), Cheapest(1, {0: 4}))
        self.assertEqual(cheapest([early, late], 3, 5), Cheapest(0, {}))
        self.assertEqual(cheapest([late, early, late, early], 4, 5), Cheapest(0, {}))
        self.assertEqual(outdone([late, early], 5), {})

    def test_the_same_rule_twice(self):
        for rule in PLAIN_RULES:
            for days in (5, 100, 10 ** 30):
                number = most(rule, days).number
                self.assertEqual(cheapest([rule, rule], number, days), Cheapest(0, {}))
                self.assertEqual(outdone([rule, rule, rule], days), {})

    def test_40_choices(self):
        choices = some_rules(104, 40)
        for days in (100, 10 ** 30):
            for number in (5, 30, 100, 400):
                found = cheapest(choices, number, days)
                fit = [place for place, rule in enumerate(choices) if most(rule, days).number <= number]
                self.assertEqual(found is None, not fit)
                if fit:
                    self.assertEqual(found.place, min(fit, key=lambda place: work(choices[place], days)))
                    for place, day in found.against.items():
                        self.assertLessEqual(day, days)
                        self.assertEqual(most(choices[place], day - 1).number, number)
                        self.assertEqual(count(choices[place], day), number + 1)
            found = outdone(choices, days)
            self.assertEqual(list(found), sorted(found))
            for place, other in found.items():
                self.assertLess(work(choices[other], days), work(choices[place], days))
                self.assertLessEqual(most(choices[other], days).number, most(choices[place], days).number)
        self.assertTrue(outdone([choices[0]] * 40, 10 ** 30) == {})

    def test_400_layers(self):
        rule, lazy = Rule([], [(2, 2)]), Rule([], [(12, 12)])
        days = 2 ** 401 - 2
        self.assertEqual(cheapest([rule], 400, days), Cheapest(0, {}))
        self.assertIsNone(cheapest([rule], 400, days + 1))
        number = most(lazy, 10 ** 39).number
        self.assertGreater(number, 390)
        self.assertEqual(cheapest([lazy, rule], 400, 10 ** 39).place, 0)
        self.assertEqual(cheapest([lazy, rule], number - 1, 10 ** 39), Cheapest(1, {0: most(lazy, 10 ** 39).day}))

    def test_far_days(self):
        for days in FAR + [10 ** 3000]:
            found = cheapest(EXAMPLE, 10 ** 5, days)
            self.assertEqual(found, Cheapest(2, {}))
            self.assertTrue(found.shows(EXAMPLE, 10 ** 5, days))
            self.assertEqual(outdone(EXAMPLE, days), {})
            self.assertEqual(outdone([Rule([], [(4, 2)]), Rule([], [(4, 4)])], days), {0: 1})

    def test_outdone_by_the_first_other_one(self):
        wide, good = Rule([], [(4, 2)]), Rule([], [(4, 4)])
        self.assertEqual(outdone([wide, good, good, wide], 10 ** 6), {0: 1, 3: 1})
        self.assertEqual(outdone([good, wide, good], 10 ** 6), {1: 0})


class EvidenceTest(unittest.TestCase):
    def test_does_not_show_anything_else(self):
        dice = random.Random(105)
        for _ in range(60):
            choices = some_choices(dice)
            days, number = dice.choice([dice.randint(0, DAYS), 10 ** 6, 10 ** 30]), dice.randint(0, 60)
            found = cheapest(choices, number, days)
            if found is None:
                for place in range(-1, len(choices) + 1):
                    self.assertIs(Cheapest(place, {}).shows(choices, number, days), False)
                continue
            for place in [-1, len(choices), 10 ** 30, -10 ** 30] + list(range(len(choices))):
                self.assertIs(Cheapest(place, found.against).shows(choices, number, days), place == found.place)
            for place in found.against:
                for day in (found.against[place] + 1, found.against[place] - 1, 0, -1, 10 ** 40):
                    self.assertIs(Cheapest(found.place, {**found.against, place: day}).shows(choices, number, days),
                                  False)
                fewer = {other: found.against[other] for other in found.against if other != place}
                self.assertIs(Cheapest(found.place, fewer).shows(choices, number, days), False)
            for place in [-1, found.place, len(choices), 10 ** 30]:
                self.assertIs(Cheapest(found.place, {**found.against, place: 1}).shows(choices, number, days), False)

    def test_other_arguments(self):
        found = cheapest(EXAMPLE, 9, 100)
        self.assertTrue(found.shows(tuple(EXAMPLE), 9, 100))
        self.assertTrue(found.shows(EXAMPLE, 9, 101))
        for choices, number, days in [(EXAMPLE, 2, 100), (EXAMPLE, 10, 100), (EXAMPLE, 9, 10 ** 30),
                                      (EXAMPLE[:2], 9, 100), (EXAMPLE[::-1], 9, 100), (EXAMPLE, 9, 0)]:
            self.assertFalse(found.shows(choices, number, days))

    def test_changed_attributes(self):
        found = cheapest(EXAMPLE, 9, 100)
        found.against[0] = 3
        self.assertFalse(found.shows(EXAMPLE, 9, 100))
        del found.against[0]
        self.assertTrue(found.shows(EXAMPLE, 9, 100))
        found.against = {}
        self.assertFalse(found.shows(EXAMPLE, 9, 100))
        found.place = 2
        self.assertTrue(found.shows(EXAMPLE, 400, 100))

    def test_equal(self):
        found = Cheapest(1, {2: 19, 0: 3})
        self.assertTrue(found == Cheapest(1, {0: 3, 2: 19}))
        for other in (Cheapest(0, {2: 19, 0: 3}), Cheapest(1, {2: 19}), Cheapest(1, {2: 19, 0: 4}), Cheapest(1, {}),
                      InTime(1), None, 1, (1, {2: 19, 0: 3})):
            self.assertFalse(found == other)
            self.assertTrue(found != other)

    def test_true(self):
        for found in (Cheapest(0, {}), Cheapest(-1, {1: 1}), cheapest(EXAMPLE, 9, 100)):
            self.assertIs(bool(found), True)

    def test_copied(self):
        against = {2: 19}
        found = Cheapest(1, against)
        against[3] = 4
        self.assertEqual(found.against, {2: 19})
        found.against.clear()
        self.assertEqual((against, cheapest(EXAMPLE, 9, 100).against), ({2: 19, 3: 4}, {2: 19}))


class WrongInputsTest(unittest.TestCase):
    def calls(self, choices, number, days):
        return [lambda: cheapest(choices, number, days), lambda: Cheapest(0, {}).shows(choices, number, days)]

    def test_no_choices(self):
        for wrong in NO_CHOICES:
            for number, days in [(5, 5), (-1, 5), (5, True)]:
                for call in self.calls(wrong, number, days) + [lambda: outdone(wrong, days)]:
                    with self.assertRaises(BadChoices) as caught:
                        call()
                    self.assertIsNone(caught.exception.place)

    def test_no_rule_at_a_place(self):
        for wrong in NO_RULES + [Weights([], [1])]:
            for choices, place in [([wrong], 0), (EXAMPLE + [wrong], 3), ((EXAMPLE[0], wrong, wrong), 1),
                                   (EXAMPLE * 13 + [wrong], 39)]:
                for number, days in [(5, 5), (None, 5), (5, -1)]:
                    for call in self.calls(choices, number, days) + [lambda: outdone(choices, days)]:
                        with self.assertRaises(BadChoices) as caught:
                            call()
                        self.assertEqual(caught.exception.place, place)

    def test_no_number(self):
        for wrong in NO_NUMBERS:
            for number, days in [(wrong, 5), (5, wrong)]:
                for call in self.calls(EXAMPLE, number, days):
                    self.assertRaises(BadDay, call)
            self.assertRaises(BadDay, outdone, EXAMPLE, wrong)

    def test_what_is_refused_changes_nothing(self):
        choices, found = EXAMPLE + [None], Cheapest(1, {2: 19})
        self.assertRaises(BadChoices, cheapest, choices, 9, 100)
        self.assertRaises(BadChoices, found.shows, choices, 9, 100)
        self.assertRaises(BadDay, found.shows, EXAMPLE, -1, 100)
        self.assertEqual((choices, found), (EXAMPLE + [None], Cheapest(1, {2: 19})))

    def test_arguments_stay(self):
        choices = list(EXAMPLE)
        cheapest(choices, 9, 100)
        outdone(choices, 100)
        self.assertEqual(choices, [Rule([], [(2, 2)]), Rule([], [(4, 4)]), Rule([], [(10, 10)])])


if __name__ == "__main__":
    unittest.main()
