"""Points [25] and [26] and the interface's section scripts.py."""

import inspect
import itertools
import random
import unittest

from siltstore import scripts
from siltstore.scripts import RightRounds, RightScript, WrongRound, WrongScript, judge_rounds, judge_script
from siltstore.sheeterrors import BadScript

FALL = ("fall",)
NO_DEEDS = [None, 3, "fall", [], (), ["fall"], ("fall", 1), ("Fall",), ("rise",), (("fall",),), ("bake",),
            ["bake", (0,), 0, True], ("bake", (0,), 0), ("bake", (0,), 0, True, 1), ("bake", [0], 0, True),
            ("bake", 0, 0, True), ("bake", (), 0, True), ("bake", (0, 0), 0, True), ("bake", (0, 1, 0), 0, True),
            ("bake", (True,), 0, True), ("bake", (0, True), 0, True), ("bake", (-1,), 0, True),
            ("bake", (20,), 0, True), ("bake", ("0",), 0, True), ("bake", (None,), 0, True), ("bake", (0.0,), 0, True),
            ("bake", ((0,),), 0, True), ("bake", {0: 0}, 0, True), ("bake", "0", 0, True), ("bake", (0,), -1, True),
            ("bake", (0,), False, True), ("bake", (0,), None, True), ("bake", (0,), "0", True), ("bake", (0,), (0,), True),
            ("bake", (0,), 0, 1), ("bake", (0,), 0, 0), ("bake", (0,), 0, None), ("bake", (0,), 0, "keep"),
            ("drop", (0,), 0, True), ("BAKE", (0,), 0, True)]
NO_SCRIPTS = [None, 3, "fall", {}, {0: FALL}, {FALL}, True, iter([FALL]), FALL[0], [FALL] * 25, (FALL,) * 25]


class Play:
    """The layers of a script, told by their days and by what each of them tells of one key."""

    def __init__(self, contents, many=0):
        self.contents = contents
        self.layers = []
        for _ in range(many):
            self.do(FALL)

    def today(self):
        return sum(len(days) for days, _ in self.layers)

    def do(self, deed):
        if deed == FALL:
            day = self.today() + 1
            self.layers.insert(0, ((day,), self.contents.get(day)))
            return
        _, numbers, place, keeps = deed
        chosen = [self.layers[number] for number in numbers]
        told = next((text for _, text in chosen if text), None)
        new = (sum((days for days, _ in chosen), ()), None if told == "mark" and not keeps else told)
        self.layers = [layer for number, layer in enumerate(self.layers) if number not in numbers]
        self.layers.insert(place, new)

    def is_right(self):
        read = next((text for _, text in self.layers if text), None)
        # Each sheet that has fallen, newest first; what is told of other days is in none of them.
        newest = next((self.contents[day] for day in range(self.today(), 0, -1) if self.contents.get(day)), None)
        return (None if read == "mark" else read) == (None if newest == "mark" else newest)


def some_bake(dice, layers, tidy):
    """A bake for so many layers; a tidy one takes neighbours in their order."""
    many = dice.randint(1, min(layers, 4))
    if dice.random() < tidy:
        first = dice.randint(0, layers - many)
        return "bake", tuple(range(first, first + many)), first, dice.random() < 0.7 or first + many < layers
    numbers = tuple(dice.sample(range(min(layers, 20)), min(many, 20)))
    return "bake", numbers, dice.randint(0, layers - len(numbers)), dice.random() < 0.7


def some_script(dice, most, layers=0, tidy=0.9):
    deeds = []
    for _ in range(dice.randint(0, most)):
        if not layers or dice.random() < 0.5:
            deeds.append(FALL)
            layers += 1
        else:
            deeds.append(some_bake(dice, layers, tidy))
            layers += 1 - len(deeds[-1][1])
    return deeds


def first_wrong(deeds, contents, many=0, rounds=1):
    """The number of deeds, of all rounds, behind which a key with these contents reads wrong first, None if never."""
    play = Play(contents, many)
    for done, deed in enumerate(list(deeds) * rounds, start=1):
        play.do(deed)
        if not play.is_right():
            return done
    return None


def two_sheets(days):
    """All contents of a key that two sheets tell of: a leaf, and another leaf or a mark on a later day."""
    return [{one: "leaf", other: text} for one, other in itertools.combinations(range(1, days + 1), 2)
            for text in ("late", "mark")]


def least_wrong(deeds, many=0, rounds=1):
    days = many + rounds * sum(deed == FALL for deed in deeds)
    found = [first_wrong(deeds, contents, many, rounds) for contents in two_sheets(days)]
    return min((done for done in found if done is not None), default=None)


class ScriptsTest(unittest.TestCase):
    def assert_bad(self, place, call):
        with self.assertRaises(BadScript) as caught:
            call()
        self.assertEqual(caught.exception.place, place)


class JudgeScriptTest(ScriptsTest):
    def test_names(self):
        for name, told in [("judge_script", "(deeds)"), ("judge_rounds", "(deeds, many)")]:
            self.assertEqual(getattr(scripts, name).__module__, "siltstore.scripts")
            self.assertEqual(str(inspect.signature(getattr(scripts, name))), told)
        for kind in (RightScript, WrongScript, RightRounds, WrongRound):
            self.assertEqual(kind.__module__, "siltstore.scripts")
            for name in "__init__ __eq__ __bool__ shows".split():
                self.assertIn(name, vars(kind))

    def test_example(self):
        found = judge_script([FALL, FALL, ("bake", (0, 1), 0, True), FALL, ("bake", (1, 0), 0, True)])
        told = [found.many, found.one[1], bool(judge_script([FALL, FALL, ("bake", (0, 1), 0, False)]))]
        self.assertEqual(told, [5, "leaf", True])

    def test_rows(self):
        deeds = [FALL, FALL, FALL, ("bake", (0, 1), 0, True), FALL, ("bake", (2,), 2, False), ("bake", (0, 1, 2), 0, False)]
        found = judge_script(deeds)
        self.assertEqual(found.rows, [[(1,)], [(2,), (1,)], [(3,), (2,), (1,)], [(3, 2), (1,)], [(4,), (3, 2), (1,)],
                                      [(4,), (3, 2), (1,)], [(4, 3, 2, 1)]])
        self.assertIsInstance(found.rows[0], list)
        self.assertIsInstance(found.rows[0][0], tuple)
        self.assertTrue(found.shows(deeds) and found.shows(tuple(deeds)))

    def test_without_deeds(self):
        for deeds in ([], ()):
            self.assertEqual(judge_script(deeds), RightScript([]))
            self.assertTrue(judge_script(deeds).shows(deeds))
            self.assertTrue(judge_script(deeds))

    def test_each_small_script(self):
        """All scripts of some falls and up to two bakes behind them, held against all contents of two sheets."""
        for falls in range(1, 4):
            for bakes in range(0, 3 if falls < 3 else 2):
                for deeds in self.scripts_of(falls, bakes):
                    self.hold(deeds)

    def scripts_of(self, layers, bakes, ahead=()):
        """All scripts of falls, and then so many bakes of the layers there are."""
        ahead = ahead or (FALL,) * layers
        yield ahead
        if not bakes:
            return
        for many in range(1, layers + 1):
            for numbers in itertools.permutations(range(layers), many):
                for place in range(layers - many + 1):
                    for keeps in (True, False):
                        bake = ("bake", numbers, place, keeps)
                        yield from self.scripts_of(layers + 1 - many, bakes - 1, (*ahead, bake))

    def hold(self, deeds):
        found, least = judge_script(deeds), least_wrong(deeds)
        self.assertEqual(bool(found), least is None, deeds)
        self.assertTrue(found.shows(deeds), deeds)
        if found:
            play, rows = Play({}), []
            for deed in deeds:
                play.do(deed)
                rows.append([days for days, _ in play.layers])
            self.assertEqual(found, RightScript(rows))
        else:
            self.assertEqual(found.many, least, deeds)
            (early, text), (late, newer) = found.one, found.other
            self.assertTrue(early < late and text == "leaf" and newer in ("late", "mark"))
            self.assertEqual(first_wrong(deeds, {early: text, late: newer}), least)

    def test_drawn_scripts(self):
        dice = random.Random(251)
        answers = []
        for _ in range(400):
            deeds = dice.choice([list, tuple])(some_script(dice, dice.choice([6, 12, 24]), 0, dice.choice([0.3, 0.97])))
            self.hold(deeds)
            answers.append(bool(judge_script(deeds)))
        self.assertTrue(answers.count(True) > 60 and answers.count(False) > 60)

    def test_all_contents(self):
        """No key that any sheets tell of, also three and four, reads wrong where none of two sheets does."""
        dice = random.Random(252)
        for _ in range(60):
            deeds = some_script(dice, 9)
            days = min(5, deeds.count(FALL))
            found = judge_script(deeds)
            for texts in itertools.product([None, "leaf", "mark"], repeat=days):
                contents = {day + 1: text and (text if text == "mark" else f"leaf{day}")
                            for day, text in enumerate(texts)}
                done = first_wrong(deeds, contents)
                self.assertTrue(done is None or (not found and done >= found.many), (deeds, contents))

    def test_a_mark_is_lost_while_an_older_leaf_lies_below(self):
        deeds = [FALL, FALL, FALL, ("bake", (0, 1), 0, False)]
        found = judge_script(deeds)
        self.assertEqual((found.many, found.one, found.other[1]), (4, (1, "leaf"), "mark"))
        self.assertIn(found.other[0], (2, 3))
        for other in ((2, "mark"), (3, "mark")):
            self.assertTrue(WrongScript(4, (1, "leaf"), other).shows(deeds))
        for one, other in [((1, "leaf"), (3, "late")), ((2, "leaf"), (3, "mark")), ((1, "mark"), (2, "mark")),
                           ((1, "late"), (2, "mark")), ((2, "mark"), (1, "leaf")), ((0, "leaf"), (2, "mark")),
                           ((1, "leaf"), (4, "mark")), ((1, "leaf"), (1, "mark")), ((-1, "leaf"), (3, "mark")),
                           ((1, "leaf"), (2, "leaf")), ((1, "leaf"), (2, "")), ((1, ""), (2, "mark")),
                           ((1, "leaf"), (10 ** 30, "mark"))]:
            self.assertFalse(WrongScript(4, one, other).shows(deeds))
        self.assertTrue(judge_script([*deeds[:3], ("bake", (0, 1), 0, True)]))
        self.assertTrue(judge_script([*deeds[:3], ("bake", (1, 2), 1, False)]))
        self.assertTrue(judge_script([*deeds[:3], ("bake", (0, 1, 2), 0, False)]))
        self.assertFalse(judge_script([*deeds[:3], ("bake", (0,), 0, False)]))
        self.assertTrue(judge_script([*deeds[:3], ("bake", (2,), 2, False)]))

    def test_order_and_neighbours_and_place(self):
        falls = [FALL] * 4
        for numbers, place, answer in [((0, 1), 0, True), ((1, 0), 0, False), ((1, 2), 1, True), ((1, 2), 0, False),
                                       ((1, 2), 2, False), ((2, 1), 1, False), ((0, 2), 0, False), ((0, 3), 0, False),
                                       ((2, 3), 2, True), ((3, 2), 2, False), ((0, 1, 2, 3), 0, True), ((3,), 3, True),
                                       ((0, 1, 3), 0, False), ((1, 3), 1, False), ((0,), 0, True), ((0,), 1, False),
                                       ((0,), 3, False), ((3,), 0, False), ((0, 2, 1, 3), 0, False)]:
            found = judge_script([*falls, ("bake", numbers, place, True)])
            self.assertEqual(bool(found), answer, numbers)
            if not found:
                self.assertEqual((found.many, found.other[1]), (5, "late"))

    def test_24_deeds(self):
        deeds = [FALL, FALL, ("bake", (0, 1), 0, True)] * 8
        self.assertEqual(len(judge_script(deeds).rows), 24)
        deeds = [FALL] * 20 + [("bake", (18, 19), 18, False)] + [FALL] * 3
        found = judge_script(deeds)
        self.assertTrue(found and found.shows(deeds))
        deeds = [FALL] * 23 + [("bake", (19, 0), 1, True)]
        self.assertEqual(judge_script(deeds).many, 24)
        deeds = [FALL] * 23 + [("bake", tuple(range(20)), 0, True)]
        self.assertEqual(judge_script(deeds).rows[-1], [tuple(range(23, 3, -1)), (3,), (2,), (1,)])
        deeds = [FALL] * 23 + [("bake", tuple(range(20)), 0, False)]
        self.assertEqual(judge_script(deeds).many, 24)

    def test_shows_of_changed_evidence(self):
        deeds = [FALL, FALL, ("bake", (0, 1), 0, False), FALL]
        found = judge_script(deeds)
        for rows in ([], found.rows[:-1], found.rows + [[(4,), (3,), (2, 1)]], found.rows[::-1],
                     found.rows[:3] + [[(2, 1), (3,)]], found.rows[:3] + [[(3,), (1, 2)]], found.rows[:3] + [[(3, 2, 1)]],
                     found.rows[:3] + [[(3,), (2, 1), (0,)]]):
            self.assertFalse(RightScript(rows).shows(deeds))
            changed = RightScript(found.rows)
            self.assertTrue(changed.shows(deeds))
            changed.rows = rows
            self.assertFalse(changed.shows(deeds))
        self.assertFalse(found.shows(deeds[:3]))
        self.assertTrue(RightScript(found.rows[:3]).shows(deeds[:3]))
        wrong = [*deeds, ("bake", (1, 0), 0, True), FALL, ("bake", (1, 0), 0, True)]
        found = judge_script(wrong)
        self.assertEqual((found.many, found.other), (5, (3, "late")))
        for many in (-1, 0, 1, 4, 6, 7, 8, 10 ** 30):
            self.assertFalse(WrongScript(many, found.one, found.other).shows(wrong))
        for early in (1, 2):
            self.assertTrue(WrongScript(5, (early, "leaf"), (3, "late")).shows(wrong))
            # A mark that is hidden by an older leaf reads wrong, too.
            self.assertTrue(WrongScript(5, (early, "leaf"), (3, "mark")).shows(wrong))
        self.assertFalse(WrongScript(5, (1, "leaf"), (2, "late")).shows(wrong))
        for one, other in [((1, "leaf"), (3, "later")), ((1, "leaf"), (3, "gone")), ((1, "late"), (3, "late")),
                           ((3, "leaf"), (1, "late")), ((3, "leaf"), (2, "mark")), ((3, "leaf"), (3, "late"))]:
            self.assertFalse(WrongScript(5, one, other).shows(wrong))
        # A mark that is kept still hides what lies below.
        kept = [FALL] * 4 + [("bake", (0, 1), 0, True), ("bake", (2, 1), 1, True)]
        self.assertTrue(WrongScript(6, (1, "leaf"), (2, "mark")).shows(kept))
        for early, late in [(1, 3), (1, 4), (2, 3), (2, 4), (3, 4)]:
            for text in ("late", "mark"):
                self.assertFalse(WrongScript(6, (early, "leaf"), (late, text)).shows(kept))
        self.assertFalse(found.shows(deeds) or RightScript([]).shows(wrong))
        self.assertTrue(found.shows(tuple(wrong[:5])))

    def hold_all_pairs(self, deeds):
        """Evidence with all pairs of days, also of those on which no sheet falls, held against what is played."""
        many = judge_script(deeds).many
        last = deeds[:many].count(FALL)
        for one, other in itertools.combinations([-(10 ** 30), *range(-3, last + 3), 10 ** 30], 2):
            for text in ("late", "mark"):
                play = Play({one: "leaf", other: text})
                for deed in deeds[:many]:
                    play.do(deed)
                shown = WrongScript(many, (one, "leaf"), (other, text)).shows(deeds)
                self.assertEqual(shown, not play.is_right(), (deeds, one, other, text))
                # What a sheet tells that has not fallen (yet, or ever) turns nothing wrong.
                self.assertFalse(shown and not 1 <= one < other <= last)

    def test_all_pairs_of_days(self):
        dice = random.Random(253)
        held = 0
        while held < 60:
            deeds = some_script(dice, 12, 0, 0.6)
            if not judge_script(deeds):
                self.hold_all_pairs(deeds)
                held += 1
        self.hold_all_pairs([FALL, FALL, ("bake", (1, 0), 0, True)])
        self.hold_all_pairs([FALL, FALL, ("bake", (0,), 0, False)])

    def test_days_on_which_no_sheet_falls(self):
        deeds = [FALL, FALL, ("bake", (1, 0), 0, True)]
        self.assertTrue(WrongScript(3, (1, "leaf"), (2, "late")).shows(deeds))
        self.assertTrue(WrongScript(3, (1, "leaf"), (2, "mark")).shows(deeds))
        for one, other in [(-3, -1), (-3, 0), (-1, 0), (-(10 ** 30), -1), (-1, 1), (0, 1), (0, 2), (0, 5),
                           (-1, 10 ** 30)]:
            for text in ("late", "mark"):
                self.assertFalse(WrongScript(3, (one, "leaf"), (other, text)).shows(deeds))
                changed = judge_script(deeds)
                changed.one, changed.other = (one, "leaf"), (other, text)
                self.assertFalse(changed.shows(deeds))

    def test_evidence(self):
        rows = [[(1,)], [(2,), (1,)]]
        right = RightScript(rows)
        self.assertEqual(RightScript(tuple(tuple(row) for row in rows)), right)
        self.assertIsInstance(RightScript(tuple(tuple(row) for row in rows)).rows[1], list)
        rows[0].append((5,))
        rows.append([])
        self.assertEqual(right.rows, [[(1,)], [(2,), (1,)]])
        self.assertTrue(bool(right) and right == RightScript([[(1,)], [(2,), (1,)]]) and right != RightScript([]))
        wrong = WrongScript(3, (1, "leaf"), (2, "mark"))
        self.assertTrue(not wrong and wrong == WrongScript(3, (1, "leaf"), (2, "mark")))
        for other in (WrongScript(4, (1, "leaf"), (2, "mark")), WrongScript(3, (0, "leaf"), (2, "mark")),
                      WrongScript(3, (1, "leaf"), (2, "late")), right, None, 3):
            self.assertTrue(wrong != other)
        self.assertTrue(right != right.rows and RightScript([]) != RightRounds(2))
        self.assertTrue(RightRounds(2) == RightRounds(2) and RightRounds(2) != RightRounds(3))
        self.assertTrue(WrongRound(1, 2) == WrongRound(1, 2) and WrongRound(1, 2) != WrongRound(2, 1))
        self.assertTrue(WrongRound(1, 2) != WrongRound(1, 3) and WrongRound(2, 2) != RightRounds(2))
        self.assertTrue(bool(RightRounds(2)) and not bool(WrongRound(1, 2)))


def rounds_told(deeds, many):
    """The number of rounds that a RightRounds has, word by word."""
    layers, reaches = many, []
    for deed in deeds:
        if deed == FALL:
            layers += 1
        else:
            reaches.append(max(max(deed[1]), deed[2] + len(deed[1])) + 1 - (layers - many))
            layers += 1 - len(deed[1])
    if layers == many:
        return 2
    e = 1 + max(reaches) if reaches and max(reaches) >= 0 else 1
    return max(0, e - many) // (layers - many) + 2


class JudgeRoundsTest(ScriptsTest):
    def test_example(self):
        deeds = [FALL, ("bake", (0, 1), 0, False)]
        told = [bool(judge_rounds(deeds, 1)), judge_rounds([FALL, FALL, ("bake", (0, 1), 0, False)], 1).deeds]
        self.assertEqual(told, [True, 3])

    def test_drawn_rounds(self):
        dice = random.Random(261)
        answers = []
        while len(answers) < 400:
            many = dice.choice([0, 0, 1, 2, 3])
            deeds = some_script(dice, 5, many, dice.choice([0.5, 0.95]))
            layers = many + sum(1 if deed == FALL else 1 - len(deed[1]) for deed in deeds)
            if layers < many:
                self.assert_bad(None, lambda: judge_rounds(deeds, many))
                continue
            found, rounds = judge_rounds(deeds, many), 5
            least = least_wrong(deeds, many, rounds)
            self.assertEqual(bool(found), least is None, (deeds, many))
            self.assertTrue(found.shows(deeds, many) and found.shows(tuple(deeds), many))
            if found:
                self.assertEqual(found, RightRounds(rounds_told(deeds, many)), (deeds, many))
            else:
                self.assertEqual((found.rounds * len(deeds) + found.deeds), least)
                self.assertTrue(1 <= found.deeds <= len(deeds))
            answers.append((bool(found), None if found else found.rounds))
        self.assertTrue(answers.count((True, None)) > 40 and answers.count((False, 0)) > 30)
        self.assertTrue(answers.count((False, 1)) > 5)

    def test_right_in_the_first_round_alone(self):
        for deeds, many, wrong in [([FALL, FALL, ("bake", (0, 1), 0, False)], 0, (1, 3)),
                                   ([FALL, FALL, FALL, ("bake", (1, 2), 1, False), ("bake", (0,), 0, True)], 0, (1, 4)),
                                   ([FALL, FALL, ("bake", (1, 2, 3), 1, False), FALL, FALL], 2, (1, 3))]:
            self.assertEqual(judge_rounds(deeds, many), WrongRound(*wrong))
        self.assertEqual(judge_rounds([FALL, ("bake", (0, 1), 0, False)], 1), RightRounds(2))
        self.assertEqual(judge_rounds([FALL, FALL, ("bake", (1, 2), 1, False), ("bake", (0, 1), 0, True)], 1),
                         RightRounds(2))

    def test_numbers_of_rounds(self):
        for deeds, many, rounds in [
                ([], 0, 2), ([], 20, 2), ([FALL], 0, 3), ([FALL], 1, 2), ([FALL, FALL], 0, 2), ([FALL], 20, 2),
                # A bake of the two newest ones reaches two layers less than have fallen.
                ([FALL, FALL, FALL, ("bake", (0, 1), 0, True)], 0, 2),
                ([FALL, FALL, ("bake", (0, 1), 0, True)], 0, 4), ([FALL, FALL, ("bake", (0, 1), 0, True)], 1, 3),
                ([FALL, FALL, ("bake", (0, 1), 0, True)], 2, 2),
                # Only bakes that reach less than nothing: as without one.
                ([FALL] * 4 + [("bake", (0, 1), 0, True)] + [FALL], 0, 2),
                ([FALL, FALL, FALL, ("bake", (0,), 0, True), ("bake", (0, 1, 2), 0, True)], 0, 4),
                ([FALL, FALL, FALL, FALL, ("bake", (0,), 0, True), ("bake", (0,), 0, True)], 0, 2),
                ([FALL, FALL, ("bake", (3, 4), 3, True)], 3, 4)]:
            self.assertEqual(rounds_told(deeds, many), rounds, (deeds, many))
            found = judge_rounds(deeds, many)
            self.assertEqual(found, RightRounds(rounds), (deeds, many))
            for other in (rounds - 1, rounds + 1, 0, -1, 10 ** 30):
                self.assertFalse(RightRounds(other).shows(deeds, many))

    def test_as_many_layers_behind_a_round_more_and_fewer(self):
        bake = ("bake", (0, 1), 0, False)
        for many in range(21):
            if many:
                self.assertEqual(bool(judge_rounds([FALL, bake], many)), many == 1)
            self.assertTrue(judge_rounds([FALL, ("bake", (0,), 0, True)], many))
            if many >= 2:
                self.assert_bad(None, lambda: judge_rounds([("bake", (0, 1), 0, True)], many))
                self.assert_bad(None, lambda: judge_rounds([FALL, ("bake", (0, 1, 2), 0, True)], many))
        self.assert_bad(1, lambda: judge_rounds([FALL, bake], 0))

    def test_20_layers_at_first(self):
        bottom = ("bake", (18, 19), 18, False)
        self.assertEqual(judge_rounds([bottom, FALL], 20), RightRounds(2))
        self.assertEqual(judge_rounds([("bake", (18, 19), 18, True), FALL, FALL], 20), RightRounds((22 - 20) // 1 + 2))
        self.assertEqual(judge_rounds([bottom, FALL, FALL], 20), WrongRound(1, 1))
        self.assertEqual(judge_rounds([("bake", (17, 18), 17, False), FALL], 20), WrongRound(0, 1))

    def test_shows_of_changed_evidence(self):
        deeds = [FALL, FALL, ("bake", (0, 1), 0, False)]
        found = judge_rounds(deeds, 0)
        self.assertEqual(found, WrongRound(1, 3))
        for rounds, done in [(0, 3), (2, 3), (1, 2), (1, 4), (1, 0), (-1, 3), (1, -3), (10 ** 30, 3)]:
            self.assertFalse(WrongRound(rounds, done).shows(deeds, 0))
        self.assertFalse(found.shows(deeds, 1) or RightRounds(2).shows(deeds, 0) or RightRounds(1).shows(deeds, 0))
        found.rounds = 0
        self.assertTrue(found.shows(deeds, 1))
        self.assertFalse(found.shows(deeds[:2], 1))
        right = judge_rounds(deeds[:1], 0)
        self.assertTrue(right.shows(deeds[:1], 0) and not right.shows(deeds[:1], 1) and not right.shows(deeds, 0))


class WrongInputsTest(ScriptsTest):
    def calls(self):
        return [judge_script, RightScript([]).shows, WrongScript(1, (1, "leaf"), (2, "late")).shows]

    def calls_of_rounds(self):
        return [judge_rounds, RightRounds(2).shows, WrongRound(1, 2).shows]

    def test_no_script(self):
        for wrong in NO_SCRIPTS:
            for call in self.calls():
                self.assert_bad(None, lambda: call(wrong))
            for call in self.calls_of_rounds():
                self.assert_bad(None, lambda: call(wrong, 0))

    def test_no_deed(self):
        for wrong in NO_DEEDS:
            for call in self.calls():
                self.assert_bad(0, lambda: call([wrong]))
                self.assert_bad(2, lambda: call((FALL, FALL, wrong, wrong)))
            for call in self.calls_of_rounds():
                self.assert_bad(2, lambda: call([FALL, FALL, wrong], 5))

    def test_no_layers_or_no_place(self):
        for deeds, place in [([("bake", (0,), 0, True)], 0), ([FALL, ("bake", (1,), 0, True)], 1),
                             ([FALL, ("bake", (0,), 1, True)], 1), ([FALL, FALL, ("bake", (0, 2), 0, True)], 2),
                             ([FALL, FALL, ("bake", (0, 1), 1, True)], 2), ([FALL, FALL, ("bake", (1,), 2, True)], 2),
                             ([FALL, FALL, ("bake", (0, 1), 0, True), ("bake", (0, 1), 0, True)], 3),
                             ([FALL, ("bake", (1,), 0, True), None], 1), ([FALL, None, ("bake", (9,), 0, True)], 1),
                             ([FALL] * 19 + [("bake", (19,), 0, True)], 19),
                             ([FALL] * 23 + [("bake", (20,), 20, True)], 23)]:
            for call in self.calls():
                self.assert_bad(place, lambda: call(deeds))
            for call in self.calls_of_rounds():
                self.assert_bad(place, lambda: call(deeds, 0))
        self.assert_bad(1, lambda: judge_rounds([FALL, ("bake", (0, 4), 0, True)], 3))
        self.assert_bad(1, lambda: judge_rounds([FALL, ("bake", (0,), 4, True)], 3))
        # Fewer layers behind the script are told of last.
        self.assert_bad(1, lambda: judge_rounds([("bake", (0, 1), 0, True), None], 3))

    def test_no_number_of_layers(self):
        for wrong in [-1, 21, 10 ** 30, True, False, None, "1", 1.0, [1], (1,)]:
            for call in self.calls_of_rounds():
                self.assert_bad(None, lambda: call([FALL], wrong))
                self.assert_bad(None, lambda: call([None], wrong))

    def test_what_is_refused_changes_nothing(self):
        deeds = [FALL, ("bake", (0,), 0, True), ("bake", (3, 1), 0, True)]
        same = list(deeds)
        self.assert_bad(2, lambda: judge_script(deeds))
        self.assert_bad(None, lambda: judge_rounds(deeds, -1))
        self.assertEqual(deeds, same)
        judge_script(deeds[:2]).rows.clear()
        self.assertEqual(len(judge_script(deeds[:2]).rows), 2)


if __name__ == "__main__":
    unittest.main()
