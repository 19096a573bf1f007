"""Point [29] and the interface's section rounds.py."""

import inspect
import random
import unittest

from siltstore import rounds
from siltstore.rounds import FallsIn, SafeRounds, judge_drills, spare_in_rounds
from test_drills import DrillsTest

LIST, TOLD = ("sync", "list"), ("told",)
NAMES = ["sheet", "new", "last", "old", "older"]
WHOLE = [("write", "new"), ("sync", "new"), ("line", ("new",)), LIST, TOLD, ("drop", "old")]
# The sheet is put on top, and what lies below is baked by and by: each second day.
SHEETS = [("write", "sheet"), ("sync", "sheet"), ("line", ("sheet", "old")), LIST, TOLD, ("write", "new"),
          ("sync", "new"), ("line", ("new",)), LIST, ("drop", "sheet"), ("drop", "old")]
# The first round leads to another state, from which it leads there again.
LATE = [("write", "sheet"), ("sync", "sheet"), ("write", "new"), ("sync", "new"), ("line", ("new",)), LIST, TOLD,
        ("line", ("sheet", "old"))]
NO_STEP_LISTS = [None, 3, "told", {}, {TOLD: 1}, {TOLD}, iter([TOLD]), [TOLD] * 17, (TOLD,) + (LIST,) * 16, True]
NO_STEPS = [None, 3, "told", [], (), ["told"], ("told", "a"), ("list",), ("write",), ("write", "list"), ("write", "told"),
            ("write", "gone"), ("write", "a"), ("write", None), ("sync", "gone"), ("sync", ("list",)), ["sync", "list"],
            ("drop", "list"), ("drop", "gone"), ("line", "new"), ("line", ["new"]), ("line", ("gone",)),
            ("line", ("new", "list")), ("line", (None,)), ("line",), ("read", "new"), ("write", "new", "old")]


class Play:
    """Rounds that are played with names of their own for the files of each round: the sheet and the new one of a day."""

    def __init__(self):
        # The day ahead of the first round, on which there were others ahead of it: its new file has all days up to it.
        self.day = 9
        self.certain, self.written = {("new", 9)}, {("new", 9)}
        self.lines = [(("new", 9),)]
        self.is_told = True

    def named(self, name):
        kind, ago = {"sheet": ("sheet", 0), "new": ("new", 0), "last": ("sheet", 1), "old": ("new", 1),
                     "older": ("new", 2)}[name]
        return kind, self.day - ago

    def name_of(self, file):
        """What a file of some round is called in this one."""
        found = [name for name in NAMES if self.named(name) == file]
        return found[0] if found else "gone"

    def begin(self):
        self.day += 1
        self.is_told = False

    def do(self, step):
        word = step[0]
        if step == LIST:
            self.lines = self.lines[-1:]
        elif word == "told":
            self.is_told = True
        elif word == "line":
            self.lines.append(tuple(self.named(name) for name in step[1]))
        elif word == "write":
            self.written.add(self.named(step[1]))
            self.certain.discard(self.named(step[1]))
        elif word == "drop":
            self.written.discard(self.named(step[1]))
            self.certain.discard(self.named(step[1]))
        elif self.named(step[1]) in self.written:
            self.certain.add(self.named(step[1]))

    def is_line(self, line):
        """Whether the files lie side by side, newer ones first, from this day or, ahead of the telling, the one ahead
        of it down to the first, day by day; new files have all days up to theirs."""
        days = []
        for kind, day in line:
            days += [day] if kind == "sheet" else ["all up to", day]
        last = days[0] if line and line[0][0] == "sheet" else line[0][1] if line else None
        wanted = [tuple(range(last, bottom, -1)) for bottom in range(last, -1, -1)] if line else []
        shapes = [(*part, "all up to", last - len(part)) for part in wanted]
        return tuple(days) in shapes and last in ([self.day] if self.is_told else [self.day, self.day - 1])

    def faults(self):
        found = set()
        for line in self.lines:
            names = tuple(self.name_of(file) for file in line)
            if not self.is_line(line) or "gone" in names:
                found.add((names, None))
            for file in line:
                # What no name tells of any more is not there for certain.
                if file not in self.certain or self.name_of(file) == "gone":
                    found.add((names, self.name_of(file)))
        return found

    def state(self):
        lines = [tuple(self.name_of(file) for file in line) for line in self.lines]
        once = tuple(line for place, line in enumerate(lines) if line not in lines[place + 1:])
        named = [tuple(sorted(name for name in NAMES if self.named(name) in files))
                 for files in (self.certain, self.written)]
        return (*named, once, self.is_told)


def played(steps, many=9):
    """The states at the beginning of rounds, and the round, the steps and the faults of the first fault."""
    play, states = Play(), []
    for done in range(many):
        play.begin()
        states.append(play.state())
        if play.faults():
            return states, (done, 0, play.faults())
        for place, step in enumerate(steps, start=1):
            play.do(step)
            if play.faults():
                return states, (done, place, play.faults())
    return states, None


def some_steps(dice, most=15):
    names = ["sheet", "new", "new", "sheet", "last", "old", "older"]
    lines = [("new",), ("sheet", "old"), ("sheet", "last", "older"), ("old",), ("last", "older")]
    steps = []
    for _ in range(dice.randint(0, most)):
        line = dice.choice(lines) if dice.random() < 0.95 else tuple(dice.sample(NAMES, dice.randint(0, 3)))
        steps.append(dice.choice([("write", dice.choice(names)), ("sync", dice.choice(names)), ("sync", dice.choice(names)),
                                  ("drop", dice.choice(names)), LIST, ("line", line)]))
    steps.insert(dice.randint(0, len(steps)), TOLD)
    return steps


class RoundsTest(DrillsTest):
    def hold(self, steps):
        """Hold what is told of rounds against some that are played."""
        states, fault = played(steps)
        found = judge_drills(steps)
        self.assertTrue(found.shows(steps), steps)
        if fault is None:
            self.assertIsInstance(found, SafeRounds, steps)
            self.assertEqual(found.rows[0], (("old",), ("old",), (("old",),), False))
            self.assertEqual(found.rows, states[:len(found.rows)])
            self.assertIn(states[len(found.rows)], found.rows)
            wanted = [place for place, step in enumerate(steps)
                      if step != TOLD and played(steps[:place] + steps[place + 1:])[1] is None]
        else:
            done, place, faults = fault
            self.assertIsInstance(found, FallsIn, steps)
            self.assertEqual((found.rounds, found.steps), (done, place), steps)
            self.assertIn((found.line, found.name), faults, steps)
            for line in [("old",), ("new",), ("last", "older"), ("sheet", "old"), ("last", "gone", "gone"), found.line]:
                for name in [None, "gone", *NAMES]:
                    for other in ((done, place), (done + 1, place), (done, place + 1), (done - 1, place)):
                        self.assertEqual(FallsIn(*other, line, name).shows(steps),
                                         other == (done, place) and (line, name) in faults, (steps, line, name))
            wanted = None
        self.assertEqual(spare_in_rounds(steps), wanted, steps)
        return fault

    def test_names(self):
        for name in "SafeRounds FallsIn judge_drills spare_in_rounds".split():
            self.assertEqual(getattr(rounds, name).__module__, "siltstore.rounds")
        for kind in (SafeRounds, FallsIn):
            for name in "__init__ __eq__ __bool__ shows".split():
                self.assertIn(name, vars(kind))
        self.assertEqual(str(inspect.signature(judge_drills)), "(steps)")
        self.assertEqual(str(inspect.signature(spare_in_rounds)), "(steps)")

    def test_example(self):
        told = [bool(judge_drills(WHOLE)), spare_in_rounds(WHOLE), judge_drills(WHOLE[:3] + WHOLE[4:]).steps]
        self.assertEqual(told, [True, [5], 4])

    def test_whole(self):
        for steps in (WHOLE, SHEETS, LATE, tuple(WHOLE)):
            self.hold(list(steps))
        self.assertEqual(judge_drills(tuple(WHOLE)), SafeRounds([(("old",), ("old",), (("old",),), False)]))
        self.assertEqual(judge_drills(LATE).rows, [
            (("old",), ("old",), (("old",),), False),
            (("last", "old", "older"), ("last", "old", "older"), (("old",), ("last", "older")), False)])
        self.assertTrue(judge_drills(SHEETS))
        self.assertEqual(len(judge_drills(SHEETS).rows), 1)

    def test_other_steps(self):
        """Each step left out, put in once more, exchanged with another one, or with another one beside it."""
        dice = random.Random(291)
        for steps in (WHOLE, SHEETS, LATE):
            for place in range(len(steps)):
                if steps[place] != TOLD:
                    self.hold(steps[:place] + steps[place + 1:])
                    for more in range(len(steps) + 1):
                        self.hold(steps[:more] + [steps[place]] + steps[more:])
                for other in range(place):
                    exchanged = list(steps)
                    exchanged[place], exchanged[other] = steps[other], steps[place]
                    self.hold(exchanged)
            for _ in range(150):
                place = dice.randint(0, len(steps))
                more = [step for step in some_steps(dice, 3) if step != TOLD]
                self.hold(steps[:place] + more + steps[place:])

    def test_drawn_steps(self):
        dice = random.Random(292)
        for _ in range(500):
            self.hold(some_steps(dice))

    def test_later_rounds(self):
        """Rounds that fall in the second or third one alone."""
        base = [("write", "sheet"), ("sync", "sheet"), ("line", ("sheet", "old")), LIST, TOLD]
        found = judge_drills(base)
        # A new file is never written: the sheets' line has the one that no name tells of any more below.
        self.assertEqual((found.rounds, found.steps), (1, 3))
        self.hold(base)
        found = judge_drills([("write", "sheet"), ("sync", "sheet"), ("line", ("sheet", "last", "older")), LIST, TOLD])
        self.assertEqual((found.rounds, found.steps), (0, 3))
        self.hold([TOLD])
        self.assertEqual(judge_drills([TOLD]), FallsIn(0, 1, ("old",), None))
        three = [("write", "sheet"), ("sync", "sheet"), ("line", ("sheet", "old")), LIST, TOLD, ("write", "new"),
                 ("sync", "new"), ("drop", "last")]
        self.assertIsNone(self.hold(three))
        unwritten = [step for step in three if step[0] != "told"] + [TOLD]
        self.assertIsNone(self.hold(unwritten))
        seen = set()
        dice = random.Random(293)
        for _ in range(400):
            place = dice.randint(0, len(three))
            fault = self.hold(three[:place] + [step for step in some_steps(dice, 3) if step != TOLD] + three[place:])
            seen.add(fault and fault[0])
        self.assertTrue({None, 0, 1} <= seen)

    def test_gone(self):
        steps = [("write", "sheet"), ("sync", "sheet"), ("write", "new"), ("sync", "new"), ("line", ("new",)), LIST, TOLD,
                 ("line", ("sheet", "last", "older"))]
        self.hold(steps)
        # In the third round last and older are there, and called gone in the one behind it.
        found = judge_drills([*steps[:-1], ("line", ("sheet", "old")), ("line", ("new",))])
        self.assertTrue(found)
        self.assertEqual(judge_drills(steps[:-1] + [LIST]).rows[-1][2], (("old",),))
        kept = [("write", "sheet"), ("sync", "sheet"), ("line", ("sheet", "last", "older")), LIST, TOLD]
        self.hold(kept)
        found = FallsIn(1, 0, ("last", "gone", "gone"), "gone")
        self.assertFalse(found.shows(kept))

    def test_16_steps(self):
        steps = WHOLE + [LIST] * 10
        self.hold(steps)
        self.assertEqual(spare_in_rounds(steps), list(range(5, 16)))
        self.assertEqual(spare_in_rounds(tuple(steps)), list(range(5, 16)))


class EvidenceTest(DrillsTest):
    def test_safe(self):
        for steps in (WHOLE, SHEETS, LATE):
            rows = judge_drills(steps).rows
            first = rows[0]
            self.assertTrue(SafeRounds(rows[::-1]).shows(steps))
            self.assertTrue(SafeRounds(rows + rows).shows(steps))
            for place in range(len(rows)):
                self.assertFalse(SafeRounds(rows[:place] + rows[place + 1:]).shows(steps))
            for wrong in ((first[0], first[1], first[2], True), ((), first[1], first[2], False), (first[0], (), (), False),
                          (("old", "old"), first[1], first[2], False), (first[0], first[1], first[2] * 2, False),
                          (("older", "old"), ("older", "old"), first[2], False), (first[0], first[1], first[2], 0),
                          (first[0], first[1], (("older",),), False), (first[0], first[1], (("gone",),), False),
                          (("gone", "old"), first[1], first[2], False), (first[0], ("nix", "old"), first[2], False)):
                changed = SafeRounds(rows)
                self.assertTrue(changed.shows(steps))
                changed.rows = [wrong, *rows[1:]]
                self.assertFalse(changed.shows(steps), wrong)
                changed.rows = [*rows, wrong]
                self.assertFalse(changed.shows(steps), wrong)
            # From one more state a round is right, too, and leads to one of the others.
            more = (("last", "old", "older"), ("last", "old", "older"), (("old",), ("last", "older")), False)
            self.assertTrue(SafeRounds([*rows, more]).shows(steps))
        self.assertFalse(SafeRounds([]).shows(WHOLE))
        self.assertFalse(judge_drills(WHOLE).shows([TOLD]))
        self.assertFalse(judge_drills(WHOLE).shows(LATE))
        self.assertFalse(FallsIn(0, 4, ("old",), None).shows(WHOLE))

    def test_equal_and_copied(self):
        rows = [(("old",), ("old",), (("old",),), False)]
        safe = SafeRounds(rows)
        self.assertEqual(SafeRounds(tuple(rows)), safe)
        self.assertIsInstance(SafeRounds(tuple(rows)).rows, list)
        rows.clear()
        self.assertEqual(len(safe.rows), 1)
        falls = FallsIn(0, 1, ("old",), "old")
        self.assertTrue(safe != SafeRounds([]) and safe != falls and safe != safe.rows)
        self.assertTrue(falls == FallsIn(0, 1, ("old",), "old"))
        for other in (FallsIn(1, 1, ("old",), "old"), FallsIn(0, 2, ("old",), "old"), FallsIn(0, 1, ("new",), "old"),
                      FallsIn(0, 1, ("old",), None), safe, None, 1):
            self.assertTrue(falls != other)
        self.assertEqual([bool(safe), bool(SafeRounds([])), bool(falls)], [True, True, False])


class WrongInputsTest(DrillsTest):
    def calls(self):
        return [judge_drills, spare_in_rounds, SafeRounds([]).shows, FallsIn(0, 0, (), None).shows]

    def test_no_steps(self):
        for call in self.calls():
            for wrong in NO_STEP_LISTS:
                self.assert_bad(None, lambda: call(wrong))
            for wrong in NO_STEPS:
                self.assert_bad(0, lambda: call([wrong]))
                self.assert_bad(2, lambda: call((TOLD, TOLD, wrong, wrong)))

    def test_the_telling(self):
        for call in self.calls():
            for wrong in ([], (), [LIST], [TOLD, TOLD], WHOLE[:4], [*WHOLE, TOLD], (TOLD, LIST, TOLD), [TOLD] * 16):
                self.assert_bad(None, lambda: call(wrong))
        steps = [TOLD, None]
        self.assert_bad(1, lambda: judge_drills(steps))
        self.assertEqual(steps, [TOLD, None])


if __name__ == "__main__":
    unittest.main()
