"""Points [8] and [9] and the interface's section calendars.py."""

import random
import unittest

from playing import FAR, NO_NUMBERS, NO_RULES, PLAIN_RULES, played, some_rules
from siltstore import calendars
from siltstore.calendars import (Calendar, both, day_with, days_baking, days_deep, days_few, days_from, days_with,
                                 either, every_day, first_day, first_unlike, is_within, many_up_to, next_day, rest,
                                 without)
from siltstore.counts import count
from siltstore.days import baked, digits
from siltstore.errors import BadDay, BadRule, Unlike
from siltstore.rules import Rule
from siltstore.weights import Weights

LAST = 200
RULES = PLAIN_RULES + some_rules(81, 8, 4) + some_rules(82, 4)
TWO = Rule([], [(2, 2)])
NO_DAYS = NO_NUMBERS + ["12", (), {}, 2.0, 10.5]
NO_CALENDARS = [None, 0, TWO, "every", [{}], ([{}], [0]), Calendar]


def all_to(state):
    return {digit: state for digit in range(12)}


def some_calendar(dice, rule):
    many = dice.randint(1, 5)
    steps = [{digit: dice.randrange(many) for digit in range(12)} for _ in range(many)]
    return Calendar(rule, steps, [dice.randrange(many) for _ in range(dice.randint(0, 3))])


def days_of(calendar, last=LAST):
    return [day for day in range(last + 1) if calendar.has(day)]


def read(calendar, day):
    """Whether the digits of a day lead to an end, read one by one."""
    state = 0
    for digit in digits(calendar.rule, day):
        state = calendar.steps[state][digit]
    return state in calendar.ends


def some_plain(dice, rule):
    """A calendar and whether it has a day, told in words."""
    kind, grade, many, first = dice.randrange(7), dice.randint(0, 5), dice.randint(0, 6), dice.randint(0, LAST)
    if kind == 0:
        return every_day(rule), lambda day: True
    if kind == 1:
        return days_with(rule, grade, many), lambda day: (digits(rule, day) + [0] * 9)[grade] == many
    if kind == 2:
        return days_baking(rule, grade), lambda day: day > 0 and grade in baked(rule, day)
    if kind == 3:
        return days_few(rule, many), lambda day: count(rule, day) <= many
    if kind == 4:
        return days_deep(rule, grade), lambda day: len(digits(rule, day)) > grade
    if kind == 5:
        return days_from(rule, first), lambda day: day >= first
    other = some_calendar(dice, rule)
    return other, lambda day: read(other, day)


def some_mixed(dice, rule, deep):
    """A calendar that is put together, and whether it has a day."""
    if deep == 0:
        return some_plain(dice, rule)
    one, is_one = some_mixed(dice, rule, deep - 1)
    other, is_other = some_plain(dice, rule)
    kind = dice.randrange(4)
    if kind == 0:
        return both(one, other), lambda day: is_one(day) and is_other(day)
    if kind == 1:
        return either(one, other), lambda day: is_one(day) or is_other(day)
    if kind == 2:
        return without(one, other), lambda day: is_one(day) and not is_other(day)
    return rest(one), lambda day: not is_one(day)


def some_cases(seed, many):
    dice = random.Random(seed)
    for rule in RULES:
        for deep in [dice.randint(0, 3) for _ in range(many)]:
            yield some_mixed(dice, rule, deep)


class PlainTest(unittest.TestCase):
    """The plain calendars, held against rules that are played."""

    def test_played(self):
        for rule in RULES:
            tried = [every_day(rule)]
            tried += [days_with(rule, grade, many) for grade in range(4) for many in (0, 1, 2, 11, 12, 10 ** 30)]
            tried += [days_baking(rule, grade) for grade in range(4)] + [days_few(rule, many) for many in (0, 1, 5, 30)]
            tried += [days_deep(rule, grade) for grade in range(4)]
            tried += [days_from(rule, first) for first in (0, 1, 2, 3, 7, 64, 150, LAST)]
            wanted = [[0]] + [[0] if many == 0 else [] for _ in range(4) for many in (0, 1, 2, 11, 12, 10 ** 30)]
            wanted += [[] for _ in range(4)] + [[0] for _ in range(4)] + [[] for _ in range(4)] + [[0]] + [[]] * 7
            wanted = [list(days) for days in wanted]
            for play in played(rule, LAST):
                numbers = [sum(layer[2] == grade for layer in play.layers) for grade in range(4)]
                told = [True]
                told += [numbers[grade] == many for grade in range(4) for many in (0, 1, 2, 11, 12, 10 ** 30)]
                told += [grade in play.baked for grade in range(4)]
                told += [len(play.layers) <= many for many in (0, 1, 5, 30)]
                told += [any(layer[2] >= grade for layer in play.layers) for grade in range(4)]
                told += [play.day >= first for first in (0, 1, 2, 3, 7, 64, 150, LAST)]
                for days, is_there in zip(wanted, told):
                    days += [play.day] if is_there else []
            for calendar, days in zip(tried, wanted):
                self.assertEqual(days_of(calendar), days)

    def test_each_day_from(self):
        for rule in RULES:
            for first in range(LAST):
                calendar = days_from(rule, first)
                self.assertEqual([calendar.has(day) for day in (0, first // 2, first - 1, first, first + 1, LAST * 12)],
                                 [first == 0, first == 0, False, True, True, True])
                self.assertEqual(first_day(calendar), first)

    def test_far_days(self):
        for rule in PLAIN_RULES:
            for far in FAR:
                self.assertTrue(every_day(rule).has(far))
                calendar = days_from(rule, far)
                self.assertEqual([calendar.has(day) for day in (far - 1, far, far + 1, 2 * far, far // 2)],
                                 [False, True, True, True, False])
                self.assertEqual([first_day(calendar), day_with(calendar, 10 ** 25)], [far, far + 10 ** 25])
                told = digits(rule, far)
                grade = len(told) - 1
                self.assertEqual([days_deep(rule, grade).has(far), days_deep(rule, grade + 1).has(far)], [True, False])
                for grade, digit in enumerate(told[:20]):
                    self.assertTrue(days_with(rule, grade, digit).has(far))
                    self.assertFalse(days_with(rule, grade, digit + 1).has(far))
                    self.assertEqual(days_baking(rule, grade).has(far), grade in baked(rule, far))
                few = count(rule, far)
                self.assertEqual([days_few(rule, few).has(far), days_few(rule, few - 1).has(far)], [True, False])

    def test_day_0(self):
        for rule in RULES:
            for calendar in (every_day(rule), days_with(rule, 0, 0), days_with(rule, 5, 0), days_few(rule, 0),
                             days_from(rule, 0), rest(days_deep(rule, 0)), rest(days_baking(rule, 0))):
                self.assertTrue(calendar.has(0))
                self.assertEqual(first_day(calendar), 0)
            for calendar in (days_with(rule, 0, 1), days_baking(rule, 0), days_deep(rule, 0), days_from(rule, 1),
                             rest(every_day(rule))):
                self.assertFalse(calendar.has(0))
                self.assertNotEqual(first_day(calendar), 0)


class CalendarTest(unittest.TestCase):
    def test_names(self):
        names = ("Calendar every_day days_with days_baking days_few days_deep days_from both either without rest "
                 "first_day next_day many_up_to day_with first_unlike is_within").split()
        for name in names:
            self.assertEqual(getattr(calendars, name).__module__, "siltstore.calendars")
        self.assertIn("has", vars(Calendar))
        one, other = days_with(rule=TWO, grade=1, many=1), days_baking(rule=TWO, grade=0)
        for calendar in (every_day(rule=TWO), one, other, days_few(rule=TWO, many=2), days_deep(rule=TWO, grade=1),
                         days_from(rule=TWO, first=9), both(one=one, other=other), either(one=one, other=other),
                         without(one=one, other=other), rest(calendar=one),
                         Calendar(rule=TWO, steps=[all_to(0)], ends=[0])):
            self.assertIsInstance(calendar, Calendar)
            self.assertEqual([type(calendar.rule), type(calendar.steps), type(calendar.ends)], [Rule, list, tuple])
            self.assertEqual(calendar.rule, TWO)
            self.assertEqual(calendar.ends, tuple(sorted(set(calendar.ends))))
            self.assertTrue(all(type(step) is dict and sorted(step) == list(range(12)) for step in calendar.steps))
            self.assertTrue(all(0 <= state < len(calendar.steps) for step in calendar.steps for state in step.values()))
            again = Calendar(calendar.rule, calendar.steps, calendar.ends)
            self.assertEqual(days_of(again), days_of(calendar))
        self.assertEqual([first_day(calendar=one), next_day(calendar=one, day=3), many_up_to(calendar=one, day=9),
                          day_with(calendar=one, number=1), first_unlike(one=one, other=other),
                          is_within(one=one, other=other), one.has(day=2)], [2, 6, 4, 3, 3, False, True])

    def test_example(self):
        few, busy = days_few(TWO, 1), days_baking(TWO, 1)
        told = [many_up_to(few, 100), next_day(few, 64), day_with(busy, 2),
                first_unlike(busy, both(busy, rest(few))), few.has(12)]
        self.assertEqual(told, [8, 128, 12, 4, False])

    def test_from_outside(self):
        odd = Calendar(TWO, [{**all_to(0), 0: 2, 1: 1}, all_to(1), all_to(2)], (1,))
        self.assertEqual(days_of(odd), list(range(1, LAST + 1, 2)))
        dice = random.Random(83)
        for rule in RULES:
            for _ in range(5):
                calendar = some_calendar(dice, rule)
                self.assertEqual(days_of(calendar), [day for day in range(LAST + 1) if read(calendar, day)])

    def test_ends(self):
        steps = [all_to(state) for state in (1, 2, 3, 4, 0)]
        for ends, told in [([4, 1, 4, 0, 1], (0, 1, 4)), ((), ()), ([], ()), ((2, 2), (2,)), ([3], (3,))]:
            self.assertEqual(Calendar(TWO, steps, ends).ends, told)
        # States that no digits lead to change nothing.
        lonely = Calendar(TWO, [all_to(0), all_to(4), all_to(1), all_to(3), all_to(0)], [3, 1, 0, 3])
        self.assertEqual(lonely.ends, (0, 1, 3))
        self.assertEqual(days_of(lonely), list(range(LAST + 1)))
        self.assertEqual([first_day(rest(lonely)), first_unlike(lonely, every_day(TWO))], [None, None])
        self.assertEqual([many_up_to(lonely, 10 ** 30), day_with(lonely, 10 ** 30)], [10 ** 30 + 1, 10 ** 30])

    def test_has_what_is_no_day(self):
        for calendar in (every_day(TWO), rest(every_day(TWO)), days_few(TWO, 5), Calendar(TWO, [all_to(0)], [0])):
            for wrong in NO_DAYS:
                self.assertIs(calendar.has(wrong), False)
        self.assertIs(every_day(TWO).has(0), True)
        self.assertIs(days_few(TWO, 0).has(5), False)

    def test_copied(self):
        steps, ends = [all_to(1), all_to(0)], [1, 0]
        calendar = Calendar(TWO, steps, ends)
        steps[0][3] = 7
        steps.append(all_to(0))
        ends.clear()
        self.assertEqual((calendar.steps, calendar.ends), ([all_to(1), all_to(0)], (0, 1)))
        other = rest(calendar)
        other.steps[0][1] = 0
        other.steps.pop()
        self.assertEqual(calendar.steps, [all_to(1), all_to(0)])
        self.assertEqual(Calendar(TWO, tuple(steps[1:]), (0,)).steps, [all_to(0), all_to(0)])
        few = days_few(TWO, 1)
        few.steps.clear()
        self.assertEqual(days_of(days_few(TWO, 1)), [0, 1, 2, 4, 8, 16, 32, 64, 128])


class PutTogetherTest(unittest.TestCase):
    def test_days_of_two(self):
        dice = random.Random(84)
        for rule in RULES:
            for _ in range(12):
                one, other = some_plain(dice, rule)[0], some_plain(dice, rule)[0]
                mine, theirs = set(days_of(one)), set(days_of(other))
                self.assertEqual(set(days_of(both(one, other))), mine & theirs)
                self.assertEqual(set(days_of(either(one, other))), mine | theirs)
                self.assertEqual(set(days_of(without(one, other))), mine - theirs)
                self.assertEqual(set(days_of(rest(one))), set(range(LAST + 1)) - mine)

    def test_days_of_several(self):
        for calendar, is_there in some_cases(85, 8):
            self.assertEqual(days_of(calendar), [day for day in range(LAST + 1) if is_there(day)])
            for day in FAR[:4]:
                self.assertEqual(calendar.has(day), is_there(day))

    def test_arguments_stay(self):
        one, other = days_few(TWO, 2), days_from(TWO, 9)
        before = [(list(map(dict, calendar.steps)), calendar.ends) for calendar in (one, other)]
        for call in (both, either, without, first_unlike, is_within):
            call(one, other)
        for call in (rest, first_day):
            call(one)
        for call in (next_day, many_up_to, day_with):
            call(one, 9)
        self.assertEqual([(calendar.steps, calendar.ends) for calendar in (one, other)], before)

    def test_the_same_parts_again_and_again(self):
        rule = Rule([], [(3, 2)])
        parts = [days_few(rule, 14), days_with(rule, 12, 2), days_from(rule, 10 ** 5)]
        calendar = parts[0]
        for _ in range(8):
            for part in parts:
                calendar = either(both(calendar, part), without(calendar, rest(part)))
        self.assertLess(len(calendar.steps), 5000)
        wanted = both(parts[0], both(parts[1], parts[2]))
        self.assertEqual([first_unlike(calendar, wanted), is_within(calendar, wanted)], [None, True])

    def test_as_many_states_as_can_be_asked_for(self):
        dice = random.Random(86)
        rule = RULES[-1]
        parts = [Calendar(rule, [{digit: dice.randrange(5) for digit in range(12)} for _ in range(5)], [0, 2])
                 for _ in range(5)]
        calendar = parts[0]
        for part in parts[1:]:
            calendar = either(calendar, part)
        self.assertTrue(is_within(parts[3], calendar))
        self.assertEqual(days_of(calendar), sorted(set(day for part in parts for day in days_of(part))))
        far = 10 ** 30
        many = many_up_to(calendar, far)
        self.assertEqual(day_with(calendar, many), next_day(calendar, far))
        wide = both(days_few(TWO, 68), days_with(TWO, 66, 1))
        self.assertEqual([first_day(wide), next_day(wide, 2 ** 66)], [2 ** 66, 2 ** 66 + 1])
        self.assertEqual(many_up_to(wide, 2 ** 67), 2 ** 66)
        self.assertEqual(first_day(days_deep(TWO, 4990)), 2 ** 4990)
        self.assertEqual(first_day(rest(days_few(TWO, 4990))), 2 ** 4991 - 1)


class DaysOfCalendarsTest(unittest.TestCase):
    def test_days_up_to_some_hundred(self):
        for calendar, _ in some_cases(87, 8):
            days = days_of(calendar, 3 * LAST)
            first = first_day(calendar)
            self.assertTrue(first == days[0] if days else first is None or first > 3 * LAST)
            for day in range(0, LAST, 7):
                later = [other for other in days if other > day]
                found = next_day(calendar, day)
                self.assertTrue(found == later[0] if later else found is None or found > 3 * LAST)
                self.assertEqual(many_up_to(calendar, day), len([other for other in days if other <= day]))
            for number, day in list(enumerate(days))[::5]:
                self.assertEqual(day_with(calendar, number), day)
            beyond = day_with(calendar, len(days))
            self.assertTrue(beyond is None or beyond > 3 * LAST)
            self.assertEqual(beyond, next_day(calendar, 3 * LAST))

    def test_far_days(self):
        for calendar, is_there in some_cases(88, 4):
            for day in FAR[:5] + [10 ** 60]:
                many, later = many_up_to(calendar, day), next_day(calendar, day)
                if later is None:
                    self.assertIsNone(day_with(calendar, many))
                else:
                    self.assertGreater(later, day)
                    self.assertTrue(is_there(later))
                    if later < 10 ** 300:
                        self.assertEqual(day_with(calendar, many), later)
                        self.assertEqual(many_up_to(calendar, later), many + 1)
                        self.assertEqual(many_up_to(calendar, later - 1), many)
                if many:
                    last = day_with(calendar, many - 1)
                    self.assertLessEqual(last, day)
                    self.assertTrue(is_there(last))
                    self.assertEqual(many_up_to(calendar, last), many)
                self.assertEqual(many_up_to(calendar, day) + many_up_to(rest(calendar), day), day + 1)

    def test_days_with_hundreds_of_figures(self):
        day = 10 ** 400 + 7
        for rule in PLAIN_RULES:
            self.assertEqual([next_day(every_day(rule), day), many_up_to(every_day(rule), day)], [day + 1] * 2)
            self.assertEqual(day_with(every_day(rule), day), day)
            busy = days_baking(rule, 2)
            size = rule.size(3)
            later = next_day(busy, day)
            self.assertLessEqual(later - day, size)
            self.assertIn(2, baked(rule, later))
            self.assertEqual(next_day(busy, later), later + size)
            self.assertEqual(many_up_to(busy, later), (later - rule.owed(3)) // size)
            self.assertEqual(day_with(busy, 10 ** 400), rule.owed(3) + (10 ** 400 + 1) * size)

    def test_few_days(self):
        few = days_few(TWO, 1)
        self.assertEqual([day_with(few, number) for number in (0, 1, 2, 3, 500)], [0, 1, 2, 4, 2 ** 499])
        self.assertEqual([next_day(few, 2 ** 300), many_up_to(few, 2 ** 300)], [2 ** 301, 302])
        self.assertEqual([first_day(without(few, days_few(TWO, 0))), next_day(few, 10 ** 30)], [1, 2 ** 100])

    def test_no_more_days(self):
        for rule in PLAIN_RULES:
            nothing, early = rest(every_day(rule)), rest(days_from(rule, 100))
            self.assertEqual([first_day(nothing), next_day(nothing, 0), next_day(nothing, 10 ** 30),
                              many_up_to(nothing, 10 ** 30), day_with(nothing, 0), day_with(nothing, 10 ** 30)],
                             [None, None, None, 0, None, None])
            self.assertEqual([first_day(early), next_day(early, 98), next_day(early, 99), next_day(early, 10 ** 30),
                              many_up_to(early, 10 ** 30), day_with(early, 99), day_with(early, 100),
                              day_with(early, 10 ** 30)], [0, 99, None, None, 100, 99, None, None])
            alone = days_few(rule, 0)
            self.assertEqual([first_day(alone), next_day(alone, 0), many_up_to(alone, 0), many_up_to(alone, 99),
                              day_with(alone, 0), day_with(alone, 1)], [0, None, 1, 1, 0, None])

    def test_a_day_behind_a_long_way(self):
        # A machine that goes round in rings: the lengths of its days are told by 5, 4 and 3 alone.
        rings = [Calendar(TWO, [all_to((state + 1) % long) for state in range(long)], [at])
                 for long, at in ((5, 4), (4, 3), (3, 2))]
        calendar = both(rings[0], both(rings[1], rings[2]))
        self.assertEqual([first_day(calendar), next_day(calendar, 2 ** 59 - 1)], [2 ** 58, 2 ** 118])
        self.assertEqual([many_up_to(calendar, 2 ** 59), day_with(calendar, 2 ** 58)], [2 ** 58, 2 ** 118])
        self.assertEqual(next_day(calendar, 2 ** 118 + 5), 2 ** 118 + 6)

    def test_the_place_of_a_grade_tells(self):
        # With a period, the same state is not the same at another place.
        rule = Rule([(3, 2)], [(2, 2), (3, 3), (4, 2)])
        for ends in ([0], [1], [2], [0, 2]):
            calendar = Calendar(rule, [{digit: (state + digit) % 3 for digit in range(12)} for state in range(3)], ends)
            days = [day for day in range(1500) if sum(digits(rule, day)) % 3 in ends]
            self.assertEqual(days_of(calendar, 1499), days)
            for number, day in list(enumerate(days))[:-1:50]:
                self.assertEqual([day_with(calendar, number), next_day(calendar, day), many_up_to(calendar, day)],
                                 [day, days[number + 1], number + 1])


class TwoCalendarsTest(unittest.TestCase):
    def test_first_unlike_and_within(self):
        dice = random.Random(89)
        for rule in RULES:
            for _ in range(12):
                one, other = some_mixed(dice, rule, 1)[0], some_mixed(dice, rule, 1)[0]
                unlike = [day for day in range(LAST + 1) if one.has(day) != other.has(day)]
                alone = [day for day in unlike if one.has(day)]
                found = first_unlike(one, other)
                self.assertEqual(first_unlike(other, one), found)
                if unlike:
                    self.assertEqual(found, unlike[0])
                else:
                    self.assertTrue(found is None or found > LAST and one.has(found) != other.has(found))
                if alone:
                    self.assertIs(is_within(one, other), False)
                elif is_within(one, other) is False:
                    later = first_day(without(one, other))
                    self.assertTrue(one.has(later) and not other.has(later))
                else:
                    self.assertIsNone(first_day(without(one, other)))
                self.assertTrue(is_within(both(one, other), one) and is_within(other, either(one, other)))
                self.assertIsNone(first_unlike(rest(either(one, other)), both(rest(one), rest(other))))
                self.assertIsNone(first_unlike(without(one, other), both(one, rest(other))))

    def test_far_differences(self):
        for rule in PLAIN_RULES:
            for far in FAR[:5]:
                one, other = days_from(rule, far), days_from(rule, far + 1)
                self.assertEqual([first_unlike(one, other), first_unlike(other, one)], [far, far])
                self.assertEqual([is_within(one, other), is_within(other, one)], [False, True])
            one, other = days_deep(rule, 9), days_with(rule, 9, 0)
            self.assertEqual([first_unlike(rest(one), other) is None, is_within(rest(one), other)],
                             [rule[9][0] != rule[9][1], True])

    def test_the_same(self):
        for rule in PLAIN_RULES:
            self.assertIsNone(first_unlike(every_day(rule), days_from(rule, 0)))
            self.assertIsNone(first_unlike(days_deep(rule, 0), days_from(rule, 1)))
            self.assertTrue(is_within(rest(every_day(rule)), days_few(rule, 0)))
            self.assertTrue(is_within(every_day(rule), every_day(rule)))
            self.assertIsNone(first_unlike(either(days_baking(rule, 1), days_baking(rule, 0)), days_baking(rule, 0)))


class WrongInputsTest(unittest.TestCase):
    ONE_NUMBER = [days_baking, days_few, days_deep, days_from]

    def test_no_steps(self):
        good = all_to(0)
        short = {digit: 0 for digit in range(11)}
        for wrong in [None, [], (), {}, good, "steps", 3, [None], [[0] * 12], [good, short], [short], [{**good, 12: 0}],
                      [{**short, True: 0}], [{**short, "11": 0}], [{**short, -1: 0}], [{**short, 11.5: 0}], [{}],
                      [{**short, 11: 1}], [{**short, 11: -1}], [{**short, 11: True}], [{**short, 11: None}],
                      [{**short, 11: "0"}], [{**short, 11: 0.0}], [good, {**short, 11: 2}], iter([good]),
                      [{**{digit: 0 for digit in range(12) if digit != 1}, True: 0}],
                      [{**{digit: 0 for digit in range(12) if digit != 1}, 1.0: 0}]]:
            for ends in ([0], None, [7]):
                self.assertRaises(BadDay, Calendar, TWO, wrong, ends)

    def test_no_ends(self):
        steps = [all_to(0), all_to(1)]
        for wrong in [None, {0: 1}, {0}, 0, "0", [2], [-1], [0, True], [False], [None], ["0"], [0.0], [[0]], (0, (1,)),
                      range(2), iter([0]), [10 ** 30]]:
            self.assertRaises(BadDay, Calendar, TWO, steps, wrong)
        self.assertEqual(Calendar(TWO, steps, [1, 0]).ends, (0, 1))

    def test_no_numbers(self):
        for wrong in NO_NUMBERS:
            for call in self.ONE_NUMBER:
                self.assertRaises(BadDay, call, TWO, wrong)
            self.assertRaises(BadDay, days_with, TWO, wrong, 1)
            self.assertRaises(BadDay, days_with, TWO, 1, wrong)
            for call in (next_day, many_up_to, day_with):
                self.assertRaises(BadDay, call, every_day(TWO), wrong)
                self.assertRaises(BadDay, call, rest(every_day(TWO)), wrong)

    def test_no_rule_is_ahead_of_all(self):
        for wrong in NO_RULES + [Weights([], [1])]:
            calls = [lambda: every_day(wrong), lambda: Calendar(wrong, [all_to(0)], [0]), lambda: Calendar(wrong, 1, 1)]
            calls += [lambda call=call, day=day: call(wrong, day) for call in self.ONE_NUMBER for day in (1, -1, True)]
            calls += [lambda day=day: days_with(wrong, day, 1) for day in (1, -1)]
            calls += [lambda day=day: days_with(wrong, 1, day) for day in (1, None)]
            for call in calls:
                with self.assertRaises(BadRule) as caught:
                    call()
                self.assertIsNone(caught.exception.place)

    def test_no_calendar(self):
        good, elsewhere = every_day(TWO), every_day(Rule([], [(3, 3)]))
        for wrong in NO_CALENDARS:
            for call in (both, either, without, first_unlike, is_within):
                for one, other in [(wrong, good), (good, wrong), (wrong, wrong), (elsewhere, wrong)]:
                    self.assertRaises(BadDay, call, one, other)
            for call in (rest, first_day):
                self.assertRaises(BadDay, call, wrong)
            for call in (next_day, many_up_to, day_with):
                for day in (1, -1):
                    self.assertRaises(BadDay, call, wrong, day)

    def test_what_is_refused_changes_nothing(self):
        steps, ends = [all_to(1), all_to(0)], [1, 0, 2]
        self.assertRaises(BadDay, Calendar, TWO, steps, ends)
        self.assertEqual((steps, ends), ([all_to(1), all_to(0)], [1, 0, 2]))
        one, other = days_few(TWO, 1), days_few(Rule([], [(3, 2)]), 1)
        self.assertRaises(Unlike, both, one, other)
        self.assertRaises(BadDay, day_with, one, -1)
        self.assertEqual([days_of(one)[:5], days_of(other)[:5]], [[0, 1, 2, 4, 8], [0, 1]])

    def test_calendars_of_unlike_rules(self):
        for rule in (Rule([], [(3, 2)]), Rule([(3, 2)], [(2, 2)]), Rule([], [(2, 2), (2, 2), (3, 2)])):
            for call in (both, either, without, first_unlike, is_within):
                for one, other in [(every_day(TWO), every_day(rule)), (days_few(rule, 1), days_few(TWO, 1))]:
                    with self.assertRaises(Unlike) as caught:
                        call(one, other)
                    self.assertEqual(caught.exception.what, "rules")
        again = Rule([(2, 2)], [(2, 2), (2, 2)])
        self.assertIsNone(first_unlike(days_few(TWO, 3), days_few(again, 3)))


if __name__ == "__main__":
    unittest.main()
