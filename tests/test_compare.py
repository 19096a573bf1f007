"""Point [7] and the interface's section compare.py."""

import random
import unittest

from playing import FAR, NO_RULES, PLAIN_RULES, played
from siltstore import compare
from siltstore.compare import Endless, Excess, judge_excess
from siltstore.days import digits
from siltstore.errors import BadRule, BadWeights, Unlike
from siltstore.rules import Rule
from siltstore.weights import Weights, weighed

DAYS = 250
FIRST = (0, 0, False, False)
LAZY, QUICK = Rule([], [(3, 2)]), Rule([], [(2, 2)])
HEAVY, LIGHT, NONE, LESS = Weights([], [2]), Weights([], [1]), Weights([], [0]), Weights([], [-1])
NO_WEIGHTS = [1, "weights", [1], ([], [1]), False, Weights, Rule([], [(2, 2)])]


def some_pair_of_rules(dice):
    """Two rules with the same second number at each grade."""
    front, period = dice.randint(0, 2), dice.randint(1, 3)
    many = [dice.randint(2, 4) for _ in range(front + period)]
    rows = [[(number + dice.randint(0, 2), number) for number in many] for _ in range(2)]
    return [Rule(row[:front], row[front:]) for row in rows]


def some_weights(dice):
    front = [dice.randint(-3, 3) for _ in range(dice.randint(0, 2))]
    period = [dice.randint(-3, 3) for _ in range(dice.randint(1, 2))]
    return dice.choice([None, NONE, Weights(front, period), Weights(front, period)])


def some_cases(seed, many):
    dice = random.Random(seed)
    return [(*some_pair_of_rules(dice), some_weights(dice), some_weights(dice)) for _ in range(many)]


CASES = [
    (LAZY, QUICK, None, None), (QUICK, LAZY, None, None), (LAZY, LAZY, None, None), (QUICK, QUICK, HEAVY, None),
    (QUICK, QUICK, None, HEAVY), (LAZY, QUICK, NONE, NONE), (LAZY, QUICK, LESS, LESS), (QUICK, LAZY, LESS, LESS),
    (LAZY, QUICK, Weights([1], [0]), Weights([1], [0])), (LAZY, QUICK, Weights([0, 0, 5], [0]), NONE),
    (Rule([(12, 2)], [(2, 2)]), QUICK, None, None),
    (Rule([(12, 12)], [(12, 3)]), Rule([(12, 12)], [(3, 3)]), None, None),
    (Rule([(3, 2)], [(4, 3)]), Rule([(2, 2)], [(5, 3), (3, 3), (4, 3), (3, 3), (4, 3), (3, 3)]), None, None),
    (Rule([(3, 2)], [(4, 3), (3, 3)]), Rule([(2, 2)], [(4, 3), (3, 3), (3, 3)]), LIGHT, Weights([1, 2, 3], [4, -1])),
] + some_cases(71, 60)


def excess(case, day):
    one, other, mine, theirs = case
    return weighed(one, mine or LIGHT, day) - weighed(other, theirs or LIGHT, day)


def written_out(case):
    """The length of the front and of the period of all four."""
    one, other, mine, theirs = case
    rows = [one, other, mine or LIGHT, theirs or LIGHT]
    period = 1
    while any(period % len(row.period) for row in rows):
        period += 1
    return max(len(row.front) for row in rows), period


def steps_from(case, state):
    """Each step from a state, as the document tells it: the next state and what the step weighs."""
    one, other, mine, theirs = case
    front, period = written_out(case)
    place, carry, ended, other_ended = state
    if ended and other_ended:
        return
    behind = place + 1 if place + 1 < front + period else front

    def told(pair, is_ended):
        if is_ended:
            return [(0, True)]
        return [(digit, True) for digit in range(1, pair[0])] + \
            [(digit, False) for digit in range(pair[0] - pair[1], pair[0])]

    for digit, last in told(one[place], ended):
        for other_digit, other_last in told(other[place], other_ended):
            if (carry + digit - other_digit) % one[place][1] == 0:
                weight = (mine or LIGHT)[place] * digit - (theirs or LIGHT)[place] * other_digit
                yield (behind, (carry + digit - other_digit) // one[place][1], last, other_last), weight


def is_end(state):
    return state[1:] == (0, True, True)


def bars(case, found):
    """Whether the heights bar more than the number, looked at word by word."""
    heights, closed = found.heights, found.closed
    if FIRST not in heights or heights[FIRST] > found.number:
        return False
    for state in heights:
        if is_end(state) and heights[state] < 0:
            return False
        for behind, weight in steps_from(case, state):
            if behind not in closed and not (behind in heights and heights[behind] + weight <= heights[state]):
                return False
    return not any(is_end(state) or any(behind not in closed for behind, _ in steps_from(case, state))
                   for state in closed)


def changed(found, **more):
    """The same evidence with other attributes."""
    kind = type(found)
    names = ("number", "day", "heights", "closed") if kind is Excess else ("lead", "ring", "tail")
    return kind(*[more.get(name, getattr(found, name)) for name in names])


class PlayedTest(unittest.TestCase):
    def test_excess_of_each_played_day(self):
        for case in CASES:
            one, other, mine, theirs = case
            found = judge_excess(*case)
            weights, others = mine or LIGHT, theirs or LIGHT
            both = zip(played(one, DAYS), played(other, DAYS))
            for play, other_play in both:
                told = sum(weights[layer[2]] for layer in play.layers)
                told -= sum(others[layer[2]] for layer in other_play.layers)
                self.assertEqual(told, excess(case, play.day))
                if found:
                    self.assertLessEqual(told, found.number)

    def test_both_answers_come_up(self):
        kinds = [type(judge_excess(*case)) for case in CASES]
        self.assertGreater(kinds.count(Excess), 20)
        self.assertGreater(kinds.count(Endless), 20)
        self.assertGreater(len([case for case in CASES if judge_excess(*case) and judge_excess(*case).number > 0]), 8)

    def test_the_day_has_the_greatest_excess(self):
        for case in CASES:
            found = judge_excess(*case)
            if found:
                self.assertEqual(excess(case, found.day), found.number)
                self.assertGreaterEqual(found.number, 0)
                self.assertTrue(bars(case, found))
                dice = random.Random(72)
                for day in FAR + [dice.randrange(10 ** 40) for _ in range(20)] + [10 ** 3000]:
                    self.assertLessEqual(excess(case, day), found.number)

    def test_more_and_more_excess(self):
        for case in CASES:
            found = judge_excess(*case)
            if not found:
                days = [found.day(case[0], turns) for turns in (0, 1, 2, 3, 10, 11, 200)]
                more = [excess(case, day) for day in days]
                self.assertEqual(more, sorted(set(more)))
                self.assertEqual(days, sorted(set(days)))
                for side, rule in enumerate(case[:2]):
                    for turns, day in zip((0, 1, 2, 3, 10, 11, 200), days):
                        told = [pair[side] for pair in found.lead + found.ring * turns + found.tail]
                        while told and told[-1] == 0:
                            told.pop()
                        self.assertEqual(told, digits(rule, day))

    def test_the_ring_comes_back(self):
        for case in CASES:
            found = judge_excess(*case)
            if not found:
                front, period = written_out(case)
                self.assertTrue(found.ring)
                self.assertGreaterEqual(len(found.lead), front)
                self.assertEqual(len(found.ring) % period, 0)

    def test_shows_what_is_returned(self):
        for case in CASES:
            found = judge_excess(*case)
            self.assertIs(found.shows(*case), True)
            self.assertIs(changed(found).shows(*case), True)
            self.assertEqual(changed(found), found)


class ExamplesTest(unittest.TestCase):
    def test_example(self):
        found, first = judge_excess(QUICK, LAZY), Weights([1], [0])
        told = [found.number, bool(judge_excess(LAZY, QUICK)), judge_excess(LAZY, QUICK, first, first).number]
        self.assertEqual(told, [0, False, 2])

    def test_names(self):
        for name in ("Excess", "Endless", "judge_excess"):
            self.assertEqual(getattr(compare, name).__module__, "siltstore.compare")
        for name in ("__init__", "__eq__", "shows"):
            self.assertIn(name, vars(Excess))
            self.assertIn(name, vars(Endless))
        self.assertIn("day", vars(Endless))
        found = judge_excess(one=LAZY, other=QUICK, mine=None, theirs=None)
        self.assertTrue(found.shows(one=LAZY, other=QUICK, mine=None, theirs=None))
        self.assertTrue(found.shows(LAZY, QUICK, LIGHT, theirs=LIGHT))
        self.assertEqual(found.day(one=LAZY, turns=3), found.day(LAZY, 3))
        self.assertEqual(Excess(number=1, day=2, heights={}, closed=[]), Excess(1, 2, {}, ()))
        self.assertEqual(Endless(lead=[], ring=[(1, 1)], tail=[]), Endless((), ((1, 1),), ()))

    def test_bool(self):
        self.assertIs(bool(Excess(0, 0, {}, [])), True)
        self.assertIs(bool(Endless([], [], [])), False)
        self.assertIs(bool(Endless([(1, 1)], [(1, 1)], [(1, 1)])), False)

    def test_no_excess(self):
        for rule in PLAIN_RULES:
            found = judge_excess(rule, rule)
            self.assertEqual((found.number, found.day), (0, 0))
            self.assertTrue(found.shows(rule, rule))
        found = judge_excess(QUICK, QUICK, LIGHT, HEAVY)
        self.assertEqual((found.number, found.day), (0, 0))
        # Each other day has less than day 0.
        self.assertLess(found.heights[FIRST], 0)
        self.assertTrue(found.shows(QUICK, QUICK, LIGHT, HEAVY))

    def test_weights_none_are_1_for_each_layer(self):
        for weights in (None, LIGHT):
            for others in (None, LIGHT):
                self.assertEqual(judge_excess(QUICK, LAZY, weights, others), judge_excess(QUICK, LAZY))
                self.assertEqual(judge_excess(LAZY, QUICK, weights, others), judge_excess(LAZY, QUICK))

    def test_only_one_layer_weighs(self):
        # The lazy rule has 11 of the grade 0 at most, the quick one then as many as the day is odd.
        lazy = Rule([(12, 2)], [(2, 2)])
        found = judge_excess(lazy, QUICK, Weights([1], [0]), NONE)
        self.assertEqual((found.number, excess((lazy, QUICK, Weights([1], [0]), NONE), found.day)), (11, 11))

    def test_the_least_excess_above_0(self):
        for mine in (Weights([1], [0]), Weights([0, 1], [0]), Weights([0] * 5 + [1], [0])):
            found = judge_excess(QUICK, QUICK, mine, NONE)
            self.assertEqual((found.number, excess((QUICK, QUICK, mine, NONE), found.day)), (1, 1))
            self.assertTrue(found.shows(QUICK, QUICK, mine, NONE))

    def test_a_ring_at_once(self):
        evidence = Endless([], [(1, 1)], [])
        self.assertTrue(evidence.shows(QUICK, QUICK, HEAVY, LIGHT))
        self.assertEqual([evidence.day(QUICK, turns) for turns in (0, 1, 2, 5, 100)], [0, 1, 3, 31, 2 ** 100 - 1])
        self.assertFalse(evidence.shows(QUICK, QUICK, LIGHT, LIGHT))
        self.assertFalse(evidence.shows(QUICK, QUICK, LIGHT, HEAVY))
        self.assertFalse(Endless([], [(0, 0)], []).shows(QUICK, QUICK, HEAVY, LIGHT))
        found = judge_excess(QUICK, QUICK, HEAVY, LIGHT)
        self.assertEqual(found.lead, [])

    def test_a_front_is_no_ring(self):
        # Behind the first digit alone the ring comes back to its place.
        one, mine = Rule([], [(2, 2)]), Weights([0], [2])
        self.assertFalse(Endless([], [(1, 1)], []).shows(one, one, mine, LIGHT))
        self.assertTrue(Endless([(1, 1)], [(1, 1)], []).shows(one, one, mine, LIGHT))
        # With a period of two a ring of one pair does not come back to its place.
        mine = Weights([], [2, 3])
        self.assertFalse(Endless([], [(1, 1)], []).shows(one, one, mine, LIGHT))
        self.assertTrue(Endless([], [(1, 1), (1, 1)], []).shows(one, one, mine, LIGHT))
        self.assertTrue(Endless([(0, 0)], [(1, 1), (0, 0)], [(0, 0), (1, 1)]).shows(one, one, mine, LIGHT))

    def test_many_turns(self):
        found = judge_excess(LAZY, QUICK)
        self.assertTrue(excess((LAZY, QUICK, None, None), found.day(LAZY, 2000)) > 2000)


class ExcessTest(unittest.TestCase):
    """What an Excess shows behind a change."""

    def each(self):
        for case in CASES:
            found = judge_excess(*case)
            if found:
                yield case, found

    def test_another_number_or_day(self):
        for case, found in self.each():
            for more in (-10 ** 30, -found.number - 1, -1, 1, 10 ** 30):
                self.assertIs(changed(found, number=found.number + more).shows(*case), False)
            for day in (-1, -10 ** 30, found.day + 1, found.day - 1, 10 ** 30, 5):
                expected = day >= 0 and excess(case, day) == found.number
                self.assertIs(changed(found, day=day).shows(*case), expected)

    def test_a_number_below_0(self):
        # Day 1 has the greatest excess of all days but day 0.
        case = (QUICK, QUICK, LIGHT, HEAVY)
        found = judge_excess(*case)
        self.assertEqual([excess(case, 1), found.heights[FIRST]], [-1, -1])
        self.assertFalse(Excess(-1, 1, found.heights, found.closed).shows(*case))
        self.assertTrue(Excess(0, 0, found.heights, found.closed).shows(*case))

    def test_other_heights(self):
        for case, found in self.each():
            for state in found.heights:
                for height in (found.heights[state] - 1, found.heights[state] - 10 ** 30):
                    self.assertIs(changed(found, heights={**found.heights, state: height}).shows(*case), False)
                for height in (found.heights[state] + 1, found.heights[state] + 10 ** 30):
                    more = changed(found, heights={**found.heights, state: height})
                    self.assertIs(more.shows(*case), bars(case, more))

    def test_a_state_too_few(self):
        for case, found in self.each():
            for state in found.heights:
                heights = {other: found.heights[other] for other in found.heights if other != state}
                self.assertIs(changed(found, heights=heights).shows(*case), False)
            for state in found.closed:
                closed = [other for other in found.closed if other != state]
                self.assertIs(changed(found, closed=closed).shows(*case), False)
            self.assertIs(changed(found, heights={}).shows(*case), False)

    def test_a_state_too_many(self):
        for case, found in self.each():
            front, period = written_out(case)
            ends = [state for state in found.heights if is_end(state)]
            for state in ends + [FIRST]:
                self.assertIs(changed(found, closed=found.closed + [state]).shows(*case), False)
            for state in [(front + period, 0, True, True), (-1, 0, True, True), (10 ** 30, 1, True, True)]:
                self.assertIs(changed(found, heights={**found.heights, state: 0}).shows(*case), False)
                self.assertIs(changed(found, closed=found.closed + [state]).shows(*case), False)
            for state in [(0, 10 ** 30, False, False), (0, -7, True, False), (0, 1, True, True), (0, 0, True, True)]:
                for more in (changed(found, heights={**found.heights, state: 0}),
                             changed(found, closed=found.closed + [state])):
                    self.assertIs(more.shows(*case), bars(case, more))

    def test_states_more_are_shown_where_they_bar(self):
        found = judge_excess(QUICK, LAZY)
        self.assertTrue(changed(found, heights={**found.heights, (0, 5, True, True): -9}).shows(QUICK, LAZY))
        self.assertTrue(changed(found, closed=found.closed * 2).shows(QUICK, LAZY))
        self.assertTrue(changed(found, closed=found.closed + [(0, 5, True, True)]).shows(QUICK, LAZY))

    def test_other_arguments(self):
        found = judge_excess(QUICK, LAZY)
        self.assertFalse(found.shows(LAZY, QUICK))
        self.assertFalse(found.shows(QUICK, LAZY, HEAVY))
        self.assertFalse(found.shows(QUICK, QUICK, HEAVY, LIGHT))
        self.assertTrue(found.shows(QUICK, LAZY, None, LIGHT))
        self.assertFalse(judge_excess(QUICK, QUICK).shows(QUICK, LAZY))

    def test_changed_attributes(self):
        found, aim = judge_excess(QUICK, LAZY), judge_excess(LAZY, QUICK, Weights([1], [0]), Weights([1], [0]))
        found.number, found.day, found.heights, found.closed = aim.number, aim.day, aim.heights, aim.closed
        self.assertTrue(found.shows(LAZY, QUICK, Weights([1], [0]), Weights([1], [0])))
        self.assertFalse(found.shows(QUICK, LAZY))
        found.heights[FIRST] += 1
        self.assertFalse(found.shows(LAZY, QUICK, Weights([1], [0]), Weights([1], [0])))
        found.heights[FIRST] -= 1
        found.closed.clear()
        self.assertFalse(found.shows(LAZY, QUICK, Weights([1], [0]), Weights([1], [0])))

    def test_equal(self):
        found = Excess(1, 2, {FIRST: 3}, [(0, 1, True, True)])
        self.assertTrue(found == Excess(1, 2, {FIRST: 3}, ((0, 1, True, True),)))
        for other in (Excess(2, 2, {FIRST: 3}, [(0, 1, True, True)]), Excess(1, 3, {FIRST: 3}, [(0, 1, True, True)]),
                      Excess(1, 2, {FIRST: 4}, [(0, 1, True, True)]), Excess(1, 2, {FIRST: 3}, []),
                      Endless([], [], []), None, 1, (1, 2, {FIRST: 3}, [(0, 1, True, True)])):
            self.assertFalse(found == other)
            self.assertTrue(found != other)

    def test_copied(self):
        heights, closed = {FIRST: 3}, [(0, 1, True, True)]
        found, again = Excess(1, 2, heights, closed), Excess(1, 2, heights, closed)
        heights[FIRST] = 4
        closed.append(FIRST)
        self.assertEqual((found.heights, found.closed), ({FIRST: 3}, [(0, 1, True, True)]))
        found.heights.clear()
        found.closed.clear()
        self.assertEqual((again.heights, again.closed), ({FIRST: 3}, [(0, 1, True, True)]))
        self.assertIsInstance(Excess(1, 2, {}, ()).closed, list)
        judge_excess(QUICK, LAZY).heights.clear()
        self.assertTrue(judge_excess(QUICK, LAZY).shows(QUICK, LAZY))


class EndlessTest(unittest.TestCase):
    """What an Endless shows behind a change."""

    def each(self):
        for case in CASES:
            found = judge_excess(*case)
            if not found:
                yield case, found

    def is_right(self, case, found):
        """Whether all is as told, looked at by the days themselves."""
        front, period = written_out(case)
        if not found.ring or len(found.lead) < front or len(found.ring) % period:
            return False
        days = []
        for turns in range(5):
            sides = []
            for side, rule in enumerate(case[:2]):
                told = [pair[side] for pair in found.lead + found.ring * turns + found.tail]
                while told and told[-1] == 0:
                    told.pop()
                day = sum(digit * rule.size(grade) for grade, digit in enumerate(told))
                if day < 0 or digits(rule, day) != told:
                    return False
                sides.append(day)
            if sides[0] != sides[1]:
                return False
            days.append(sides[0])
        carries = []
        for many in (len(found.lead), len(found.lead) + len(found.ring)):
            pairs = (found.lead + found.ring)[:many]
            carries.append(sum((pair[0] - pair[1]) * case[0].size(grade) for grade, pair in enumerate(pairs))
                           // case[0].size(many))
        return carries[0] == carries[1] and excess(case, days[2]) - excess(case, days[1]) > 0

    def test_other_digits(self):
        dice = random.Random(74)
        for case, found in self.each():
            for name in ("lead", "ring", "tail"):
                pairs = getattr(found, name)
                for at in range(len(pairs)):
                    for more in [(1, 0), (0, 1), (-1, 0), (0, -1), (1, 1), (-1, -1), (10 ** 30, 0), (2, -2)]:
                        pair = (pairs[at][0] + more[0], pairs[at][1] + more[1])
                        other = changed(found, **{name: pairs[:at] + [pair] + pairs[at + 1:]})
                        self.assertIs(other.shows(*case), self.is_right(case, other))
            for name in ("lead", "ring", "tail"):
                pairs = list(getattr(found, name))
                pairs.insert(dice.randint(0, len(pairs)), (dice.randint(0, 2), dice.randint(0, 2)))
                other = changed(found, **{name: pairs})
                self.assertIs(other.shows(*case), self.is_right(case, other))

    def test_digits_that_are_none_of_the_day(self):
        found = judge_excess(LAZY, QUICK)
        for name in ("lead", "ring", "tail"):
            pairs = getattr(found, name)
            for at, (digit, other_digit) in enumerate(pairs):
                for pair in [(digit + 1, other_digit), (digit, other_digit + 1), (digit - 1, other_digit),
                             (-digit - 1, other_digit), (digit, -other_digit - 1), (10 ** 30, 10 ** 30)]:
                    other = changed(found, **{name: pairs[:at] + [pair] + pairs[at + 1:]})
                    self.assertIs(other.shows(LAZY, QUICK), False)

    def test_other_lists(self):
        for case, found in self.each():
            self.assertIs(changed(found, ring=[]).shows(*case), False)
            for more in (changed(found, ring=found.ring * 2), changed(found, lead=found.lead + found.ring),
                         changed(found, tail=found.ring + found.tail), changed(found, lead=[]),
                         changed(found, tail=[]), changed(found, tail=found.tail + [(0, 0)] * 3),
                         changed(found, lead=[(0, 0)] * 40), changed(found, ring=found.ring + [(0, 0)]),
                         changed(found, ring=found.lead + found.ring), Endless([], [], []),
                         Endless(found.tail, found.ring, found.lead)):
                self.assertIs(more.shows(*case), self.is_right(case, more))
            self.assertTrue(changed(found, ring=found.ring * 2).shows(*case))
            self.assertTrue(changed(found, lead=found.lead + found.ring).shows(*case))
            self.assertTrue(changed(found, tail=found.tail + [(0, 0)] * 3).shows(*case))

    def test_a_ring_that_weighs_nothing(self):
        for ring in ([(0, 0)], [(1, 1)], [(1, 1), (0, 0)]):
            self.assertFalse(Endless([], ring, [(1, 1)]).shows(QUICK, QUICK))
            self.assertFalse(Endless([], ring, [(1, 1)]).shows(QUICK, QUICK, LIGHT, HEAVY))
            self.assertFalse(Endless([], ring, [(1, 1)]).shows(QUICK, QUICK, NONE, NONE))

    def test_a_digit_that_ends_only_once(self):
        # Behind the ring the first rule's digits would go on below the least one of a grade that is not the last.
        lazy = Rule([], [(4, 2)])
        weights = Weights([], [5, 1])
        self.assertFalse(Endless([], [(2, 2), (0, 0)], []).shows(lazy, lazy, weights, LIGHT))
        self.assertTrue(Endless([], [(2, 2), (2, 2)], []).shows(lazy, lazy, weights, LIGHT))

    def test_other_arguments(self):
        found = judge_excess(LAZY, QUICK)
        self.assertFalse(found.shows(QUICK, LAZY))
        self.assertFalse(found.shows(QUICK, QUICK))
        self.assertFalse(found.shows(LAZY, QUICK, NONE, NONE))
        self.assertFalse(found.shows(LAZY, QUICK, LESS))
        self.assertTrue(found.shows(LAZY, QUICK, HEAVY, LIGHT))

    def test_changed_attributes(self):
        found = judge_excess(LAZY, QUICK)
        ring = found.ring
        found.ring = []
        self.assertFalse(found.shows(LAZY, QUICK))
        found.ring = ring * 3
        self.assertTrue(found.shows(LAZY, QUICK))
        self.assertEqual(found.day(LAZY, 2), changed(found, ring=ring).day(LAZY, 6))
        found.tail.append((1, 1))
        self.assertEqual(found.shows(LAZY, QUICK), self.is_right((LAZY, QUICK, None, None), found))

    def test_equal(self):
        found = Endless([(1, 0)], [(1, 1)], [(0, 1)])
        self.assertTrue(found == Endless(((1, 0),), ((1, 1),), ((0, 1),)))
        for other in (Endless([], [(1, 1)], [(0, 1)]), Endless([(1, 0)], [], [(0, 1)]),
                      Endless([(1, 0)], [(1, 1)], []), Excess(0, 0, {}, []), None,
                      ([(1, 0)], [(1, 1)], [(0, 1)])):
            self.assertFalse(found == other)
            self.assertTrue(found != other)

    def test_copied(self):
        lead, ring, tail = [(1, 0)], [(1, 1)], [(0, 1)]
        found, again = Endless(lead, ring, tail), Endless(lead, ring, tail)
        for pairs in (lead, ring, tail):
            pairs.clear()
        self.assertEqual((found.lead, found.ring, found.tail), ([(1, 0)], [(1, 1)], [(0, 1)]))
        found.lead.clear()
        self.assertEqual(again.lead, [(1, 0)])
        other = Endless(((1, 0),), ((1, 1),), ())
        self.assertEqual([type(other.lead), type(other.ring), type(other.tail)], [list] * 3)


class WrongInputsTest(unittest.TestCase):
    def calls(self, *case):
        return [lambda: judge_excess(*case), lambda: Excess(0, 0, {}, []).shows(*case),
                lambda: Endless([], [], []).shows(*case)]

    def test_no_rule(self):
        for wrong in NO_RULES + [LIGHT]:
            for case in [(wrong, QUICK), (QUICK, wrong), (wrong, wrong), (wrong, QUICK, 1, 1), (QUICK, wrong, 1, 1),
                         (wrong, Rule([], [(3, 3)]))]:
                for call in self.calls(*case):
                    with self.assertRaises(BadRule) as caught:
                        call()
                    self.assertIsNone(caught.exception.place)

    def test_no_weights(self):
        for wrong in NO_WEIGHTS:
            for case in [(LAZY, QUICK, wrong), (LAZY, QUICK, None, wrong), (LAZY, QUICK, LIGHT, wrong),
                         (LAZY, Rule([], [(3, 3)]), wrong), (LAZY, Rule([], [(3, 3)]), None, wrong)]:
                for call in self.calls(*case):
                    self.assertRaises(BadWeights, call)

    def test_unlike_numbers(self):
        for one, other in [(LAZY, Rule([], [(3, 3)])), (LAZY, Rule([(3, 3)], [(3, 2)])),
                           (LAZY, Rule([], [(3, 2), (3, 2), (3, 3)])),
                           (Rule([(2, 2)] * 6, [(3, 2), (3, 3)]), Rule([(2, 2)] * 6, [(3, 2)])),
                           (Rule([], [(2, 2)] * 4 + [(3, 3)]), Rule([], [(2, 2)] * 5 + [(3, 3)]))]:
            for case in [(one, other), (other, one), (one, other, LIGHT, HEAVY)]:
                for call in self.calls(*case):
                    with self.assertRaises(Unlike) as caught:
                        call()
                    self.assertEqual(caught.exception.what, "baked")

    def test_what_is_refused_changes_nothing(self):
        for case in [(LAZY, Rule([], [(3, 3)])), (None, LAZY), (LAZY, QUICK, 5)]:
            for found, again in [(judge_excess(QUICK, LAZY), judge_excess(QUICK, LAZY)),
                                 (judge_excess(LAZY, QUICK), judge_excess(LAZY, QUICK))]:
                self.assertRaises((BadRule, BadWeights, Unlike), found.shows, *case)
                self.assertEqual(found, again)

    def test_like_numbers_told_otherwise(self):
        one, other = Rule([(3, 2), (5, 3)], [(4, 2), (4, 3)]), Rule([], [(2, 2), (3, 3), (4, 2), (4, 3)])
        self.assertTrue(judge_excess(one, other).shows(one, other))

    def test_arguments_stay(self):
        one, other, mine, theirs = Rule([(3, 2)], [(4, 2)]), Rule([], [(2, 2)]), Weights([1], [2]), Weights([], [3])
        for call in self.calls(one, other, mine, theirs):
            call()
        self.assertEqual((one, other), (Rule([(3, 2)], [(4, 2)]), Rule([], [(2, 2)])))
        self.assertEqual((mine, theirs), (Weights([1], [2]), Weights([], [3])))


if __name__ == "__main__":
    unittest.main()
