"""Point [28] and the interface's section drills.py."""

import inspect
import itertools
import random
import unittest

from siltstore import drills
from siltstore.drills import Drill, FallsAt, SafeDrill, judge_drill, made_drill, spare_steps
from siltstore.sheeterrors import BadDrill

FILES = {"a": (1, 4), "b": (5, 5), "c": (1, 5)}
LIST, TOLD = ("sync", "list"), ("told",)
NO_NAMES = ["", "list", "told", "A", "a1", "1", "a b", "abcdefghi", "\u00e9", "a\n", None, 1, True, ("a",), b"a", "a-b"]
NO_FILES = ([None, [], (), "a", 3, {}, {"a"}, [("a", (1, 4))]]
            + [{**{"a": (1, 4)}, wrong: (1, 4)} for wrong in NO_NAMES] + [{wrong: (1, 4)} for wrong in NO_NAMES]
            + [{"a": pair} for pair in [None, 1, (), (1,), (1, 2, 3), [1, 4], "14", (0, 4), (-1, 4), (5, 4), (1, 10 ** 6),
                                        (10 ** 6, 10 ** 6), (True, 4), (1, True), (False, 4), (None, 4), (1, None),
                                        ("1", "4"), (1.0, 4), ((1,), (4,))]]
            + [{letter: (1, 4) for letter in "abcdefghi"}])
NO_LISTS = [None, "a", "", ["b", "a"], [], {"a": 1}, {"a"}, 3, ("a", "d"), ("list",), ("told",), ("a", None), (1,), (("a",),),
            ("a", True), iter(("a",))]
NO_TOLDS = [-1, 10 ** 6, 10 ** 30, True, False, None, "1", 1.0, [1], (1,)]
NO_STEP_LISTS = [None, 3, "told", {}, {TOLD: 1}, {TOLD}, iter([TOLD]), [TOLD] * 25, (TOLD,) * 25, True]
NO_STEPS = [None, 3, "told", "", [], (), ["told"], ("told", "a"), ("told", ()), ("Told",), ("list",), ("write",),
            ("write", "list"), ("write", "told"), ("write", "d"), ("write", None), ("write", ("a",)), ("write", ["a"]),
            ("write", "a", "b"), ["write", "a"], ("sync",), ("sync", "d"), ("sync", ("list",)), ("sync", "told"),
            ["sync", "list"], ("sync", "list", 1), ("drop",), ("drop", "list"), ("drop", 1), ("drop", "d"), ("line",),
            ("line", "a"), ("line", ["a"]), ("line", ("d",)), ("line", ("a", "list")), ("line", ("a", None)),
            ("line", (["a"],)), ("line", ("a",), ("b",)), ("line", None), ("line", "list"), ("read", "a"), (None, "a"),
            (1, 2), (("write",), "a"), TOLD[0]]


class Play:
    """A drill that is played step by step, just as the document tells it."""

    def __init__(self, drill):
        self.drill = drill
        self.certain = set(drill.start)
        self.written = set(drill.start)
        self.lines = [drill.start]
        self.told = drill.told

    def do(self, step):
        word = step[0]
        if step == LIST:
            self.lines = self.lines[-1:]
        elif word == "told":
            self.told = max([self.told] + [last for _, last in self.drill.files.values()])
        elif word == "line":
            self.lines.append(step[1])
        elif word == "write":
            self.written.add(step[1])
            self.certain.discard(step[1])
        elif word == "drop":
            self.written.discard(step[1])
            self.certain.discard(step[1])
        elif step[1] in self.written:
            self.certain.add(step[1])

    def is_line(self, line):
        """Whether the days of a line's files, day by day, are those from a last one down to 1, and this one is told."""
        days = []
        for name in line:
            first, last = self.drill.files[name]
            days += range(last, first - 1, -1)
        return days == list(range(len(days), 0, -1)) and len(days) >= self.told

    def faults(self):
        found = []
        for line in self.lines:
            if not self.is_line(line):
                found.append((line, None))
            found += [(line, name) for name in line if name not in self.certain]
        return found

    def row(self):
        return tuple(sorted(self.certain)), tuple(self.lines)


def played(drill):
    """The row behind each number of steps, and the faults there."""
    play = Play(drill)
    rows, faults = [play.row()], [play.faults()]
    for step in drill.steps:
        play.do(step)
        rows.append(play.row())
        faults.append(play.faults())
    return play, rows, faults


def is_useful(drill):
    play, _, faults = played(drill)
    return (not any(faults) and play.told >= max(last for _, last in drill.files.values()) and len(play.lines) == 1
            and play.written == set(play.lines[0]))


def some_files(dice, many=None):
    names = dice.sample(["a", "b", "c", "d", "e", "ab", "abcdefgh", "zz"], many or dice.randint(1, 5))
    return {name: dice.choice([(1, 1), (1, 2), (2, 2), (1, 3), (3, 3), (2, 3), (4, 4), (1, 4), (2, 4)]) for name in names}


def right_lines(files, least=0):
    """All lines of files as they must be, down to day 1."""
    found, open_ones = [()], [()]
    while open_ones:
        line = open_ones.pop()
        below = files[line[0]][1] if line else 0
        for name, (first, _) in files.items():
            if first == below + 1:
                open_ones.append((name, *line))
                found.append((name, *line))
    return [line for line in found if (files[line[0]][1] if line else 0) >= least]


def some_step(dice, files):
    names = sorted(files)
    lines = right_lines(files)
    return dice.choice([("write", dice.choice(names)), ("sync", dice.choice(names)), ("sync", dice.choice(names)),
                        ("drop", dice.choice(names)), LIST, TOLD, ("line", dice.choice(lines)),
                        ("line", tuple(dice.choice(names) for _ in range(dice.randint(0, 3))))])


def some_made(dice):
    """A made drill from one list to another one, and both lists."""
    while True:
        files = some_files(dice)
        last = max(pair[1] for pair in files.values())
        goals = right_lines(files, last)
        if goals:
            start = dice.choice(right_lines(files))
            told = dice.randint(0, files[start[0]][1] if start else 0)
            goal = dice.choice(goals)
            return made_drill(files, start, told, goal), goal


class DrillsTest(unittest.TestCase):
    def assert_bad(self, place, call):
        with self.assertRaises(BadDrill) as caught:
            call()
        self.assertEqual(caught.exception.place, place)


class DrillTest(DrillsTest):
    def test_names(self):
        for name in "Drill SafeDrill FallsAt judge_drill spare_steps made_drill".split():
            self.assertEqual(getattr(drills, name).__module__, "siltstore.drills")
        for name in "__init__ __eq__ __len__ with_steps".split():
            self.assertIn(name, vars(Drill))
        for kind in (SafeDrill, FallsAt):
            for name in "__init__ __eq__ __bool__ shows".split():
                self.assertIn(name, vars(kind))
        self.assertEqual(str(inspect.signature(Drill)), "(files, start, told, steps)")
        self.assertEqual(str(inspect.signature(made_drill)), "(files, start, told, goal)")
        self.assertEqual(str(inspect.signature(Drill.with_steps)), "(self, steps)")

    def test_example(self):
        drill = made_drill(FILES, ("b", "a"), 5, ("c",))
        told = [len(drill), drill.steps[0], bool(judge_drill(drill)), spare_steps(drill)]
        self.assertEqual(told, [6, ("write", "c"), True, []])
        found = judge_drill(drill.with_steps([step for step in drill.steps if step != ("sync", "list")]))
        self.assertEqual([found.steps, found.line], [4, ("b", "a")])

    def test_attributes(self):
        files, steps = {"c": (1, 5), "a": (1, 4), "b": (5, 5)}, [("write", "c"), TOLD]
        drill = Drill(files, ("b", "a"), 3, steps)
        files["d"] = (1, 1)
        steps.pop()
        self.assertEqual(list(drill.files.items()), [("a", (1, 4)), ("b", (5, 5)), ("c", (1, 5))])
        self.assertEqual((drill.start, drill.told, drill.steps, len(drill)), (("b", "a"), 3, (("write", "c"), TOLD), 2))
        other = drill.with_steps((TOLD,))
        self.assertEqual((other.files, other.start, other.told, other.steps), (drill.files, ("b", "a"), 3, (TOLD,)))
        self.assertEqual((drill.steps, len(other), len(drill.with_steps([]))), ((("write", "c"), TOLD), 1, 0))

    def test_equal(self):
        drill = Drill(FILES, ("a",), 4, [TOLD])
        self.assertTrue(drill == Drill({"c": (1, 5), "b": (5, 5), "a": (1, 4)}, ("a",), 4, (TOLD,)))
        self.assertFalse(drill != Drill(FILES, ("a",), 4, [TOLD]))
        for other in (Drill({**FILES, "d": (1, 1)}, ("a",), 4, [TOLD]), Drill({**FILES, "c": (1, 6)}, ("a",), 4, [TOLD]),
                      Drill(FILES, ("c",), 4, [TOLD]), Drill(FILES, ("a",), 3, [TOLD]), Drill(FILES, ("a",), 4, []),
                      drill.with_steps([TOLD, TOLD]), None, FILES, 1):
            self.assertTrue(drill != other)
            self.assertFalse(drill == other)

    def test_edges(self):
        eight = {name: (1, 999999) for name in ["a", "abcdefgh", "c", "d", "e", "start", "sync", "lists"]}
        drill = Drill(eight, ("abcdefgh",), 999999, [("write", "sync"), ("sync", "sync"), ("line", ("lists", "lists"))] * 8)
        self.assertEqual((len(drill.files), len(drill)), (8, 24))
        self.assertEqual(list(drill.files), sorted(eight))
        self.assertEqual(Drill({"a": (999999, 999999)}, (), 0, []).start, ())
        self.assertEqual(len(Drill({"a": (1, 1)}, ("a", "a"), 0, ())), 0)


class JudgeDrillTest(DrillsTest):
    def hold(self, drill):
        """Hold what is told of a drill against one that is played."""
        _, rows, faults = played(drill)
        found = judge_drill(drill)
        least = next((steps for steps, fault in enumerate(faults) if fault), None)
        self.assertTrue(found.shows(drill), drill.steps)
        if least is None:
            self.assertEqual(found, SafeDrill(rows))
        else:
            self.assertIsInstance(found, FallsAt)
            self.assertEqual(found.steps, least)
            self.assertIn((found.line, found.name), faults[least])
            lines = [*rows[least][1], ("a", "b"), ()]
            for line in lines:
                for name in [None, *drill.files, "nix"]:
                    for steps in (least - 1, least, least + 1):
                        self.assertEqual(FallsAt(steps, line, name).shows(drill),
                                         steps == least and (line, name) in faults[least])
        useful = is_useful(drill)
        spare = [place for place in range(len(drill))
                 if is_useful(drill.with_steps(drill.steps[:place] + drill.steps[place + 1:]))]
        self.assertEqual(spare_steps(drill), spare if useful else None)
        return bool(found), useful

    def test_drawn_drills(self):
        dice = random.Random(281)
        for _ in range(300):
            files = some_files(dice)
            lines = right_lines(files)
            start, told = dice.choice(lines), dice.randint(0, 3)
            self.hold(Drill(files, start, told, [some_step(dice, files) for _ in range(dice.randint(0, 12))]))

    def test_made_drills_with_other_steps(self):
        dice = random.Random(282)
        answers = []
        for _ in range(60):
            drill, _ = some_made(dice)
            answers.append(self.hold(drill))
            self.assertEqual(answers[-1], (True, True))
            steps = list(drill.steps)
            for place in range(len(steps) + 1):
                more = drill.with_steps([*steps[:place], some_step(dice, drill.files), *steps[place:]])
                answers.append(self.hold(more))
                if place < len(steps):
                    answers.append(self.hold(drill.with_steps(steps[:place] + steps[place + 1:])))
                    answers.append(self.hold(drill.with_steps([*steps, steps[place]])))
                    answers.append(self.hold(drill.with_steps(steps[:place] + [steps[place]] + steps[place:])))
                    other = dice.randint(0, len(steps) - 1)
                    steps[place], steps[other] = steps[other], steps[place]
                    answers.append(self.hold(drill.with_steps(steps)))
                    steps = list(drill.steps)
        for answer in ((True, True), (True, False), (False, False)):
            self.assertTrue(answers.count(answer) > 50, answer)

    def test_rows(self):
        drill = Drill({"b": (1, 2), "a": (1, 1)}, ("a",), 1,
                      [("write", "b"), ("sync", "b"), ("line", ("b",)), ("line", ("b",)), LIST, ("drop", "a"), TOLD])
        self.assertEqual(judge_drill(drill).rows, [
            (("a",), (("a",),)), (("a",), (("a",),)), (("a", "b"), (("a",),)), (("a", "b"), (("a",), ("b",))),
            (("a", "b"), (("a",), ("b",), ("b",))), (("a", "b"), (("b",),)), (("b",), (("b",),)), (("b",), (("b",),))])
        self.assertEqual(spare_steps(drill), [2, 3])

    def test_files(self):
        """A file that is written again, dropped, synced without being written, or of the list at first."""
        files, line = {"a": (1, 1), "b": (1, 1)}, ("line", ("b",))
        for steps, fault in [
                ([("write", "b"), ("sync", "b"), line], None), ([line], (1, ("b",), "b")),
                ([("sync", "b"), line], (2, ("b",), "b")), ([("write", "b"), line], (2, ("b",), "b")),
                ([("sync", "b"), ("write", "b"), line], (3, ("b",), "b")),
                ([("write", "b"), ("sync", "b"), ("write", "b"), line], (4, ("b",), "b")),
                ([("write", "b"), ("sync", "b"), ("write", "b"), ("sync", "b"), line], None),
                ([("write", "b"), ("drop", "b"), ("sync", "b"), line], (4, ("b",), "b")),
                ([("write", "b"), ("sync", "b"), ("drop", "b"), line], (4, ("b",), "b")),
                ([("write", "b"), ("sync", "b"), line, ("drop", "b")], (4, ("b",), "b")),
                ([("drop", "a")], (1, ("a",), "a")), ([("write", "a")], (1, ("a",), "a")), ([("sync", "a")], None),
                ([("write", "b"), ("sync", "b"), line, LIST, ("drop", "a")], None),
                ([("write", "b"), ("sync", "b"), line, ("drop", "a"), LIST], (4, ("a",), "a")),
                # The sync of the list ahead of that of the file.
                ([("write", "b"), line, LIST, ("sync", "b")], (2, ("b",), "b")),
                ([("write", "b"), ("sync", "b"), line, LIST, ("drop", "a"), ("write", "a"), ("sync", "a"),
                  ("line", ("a",)), LIST, ("write", "b")], None),
                ([("write", "b"), ("sync", "b"), line, LIST, ("drop", "a"), ("sync", "a"), ("line", ("a",))],
                 (7, ("a",), "a"))]:
            found = judge_drill(Drill(files, ("a",), 1, steps))
            self.assertEqual(found if fault else bool(found), FallsAt(*fault) if fault else True, steps)

    def test_lines(self):
        files = {"a": (1, 4), "b": (5, 5), "c": (1, 5), "d": (6, 9), "e": (4, 5)}
        for start, told, is_right in [(("b", "a"), 5, True), (("c",), 5, True), (("d", "c"), 9, True), ((), 0, True),
                                      (("d", "b", "a"), 6, True), (("a", "b"), 0, False), (("b",), 0, False),
                                      (("d",), 0, False), (("a",), 5, False), (("a",), 4, True), ((), 1, False),
                                      (("e", "a"), 0, False), (("c", "a"), 0, False), (("c", "c"), 0, False),
                                      (("d", "a"), 0, False), (("b", "a"), 6, False), (("d", "c", "b"), 0, False)]:
            found = judge_drill(Drill(files, start, told, []))
            self.assertEqual(bool(found), is_right, start)
            if not found:
                self.assertEqual(found, FallsAt(0, start, None))
        self.assertEqual(judge_drill(Drill(files, ("c",), 5, [("line", ())])), FallsAt(1, (), None))
        self.assertTrue(judge_drill(Drill(files, ("c",), 0, [("line", ()), LIST])))
        # All days of the files are told, not those of the list alone.
        self.assertEqual(judge_drill(Drill(files, ("c",), 5, [TOLD])), FallsAt(1, ("c",), None))
        self.assertTrue(judge_drill(Drill(files, ("d", "c"), 0, [TOLD, TOLD])))

    def test_useful(self):
        files = {"a": (1, 1), "b": (1, 1), "c": (2, 2)}
        self.assertIsNone(spare_steps(Drill(files, ("a",), 0, [])))
        self.assertIsNone(spare_steps(Drill(files, ("a",), 0, [TOLD])))
        files = {"a": (1, 1), "b": (1, 1)}
        for steps, spare in [([], None), ([TOLD], []), ([TOLD, TOLD], [0, 1]), ([LIST, TOLD], [0]),
                             ([TOLD, ("drop", "b")], [1]), ([TOLD, ("write", "b")], None),
                             ([TOLD, ("write", "b"), ("drop", "b")], [1]),
                             ([TOLD, ("sync", "b"), ("sync", "a")], [1, 2]), ([("line", ("a",)), LIST, TOLD], [0]),
                             ([("line", ("a",)), TOLD], None), ([TOLD, ("line", ("a",))], None)]:
            self.assertEqual(spare_steps(Drill(files, ("a",), 0, steps)), spare, steps)
        self.assertEqual(spare_steps(Drill(files, ("a",), 1, [])), [])
        self.assertIsNone(spare_steps(Drill(files, ("b", "a"), 1, [])))

    def test_24_steps(self):
        steps = [("write", "b"), ("sync", "b"), ("line", ("b",)), LIST, ("drop", "a"), TOLD] + [LIST] * 18
        drill = Drill({"a": (1, 1), "b": (1, 2)}, ("a",), 1, steps)
        self.hold(drill)
        self.assertEqual(len(judge_drill(drill).rows), 25)
        self.assertEqual(spare_steps(drill), list(range(6, 24)))


class MadeDrillTest(DrillsTest):
    def fewest(self, files, start, told, goal):
        """The least number of steps of a useful drill to a list, by going through all states of all drills."""
        last = max(pair[1] for pair in files.values())
        steps = [(word, name) for word in ("write", "sync", "drop") for name in files] + [LIST, TOLD]
        # Any other line may be read at once, and is not as it must be.
        steps += [("line", line) for line in right_lines(files)]
        start_play = Play(Drill(files, start, told, []))
        row, seen, many = [start_play], set(), 0
        while row:
            behind = []
            for play in row:
                if play.told >= last and play.lines == [goal] and play.written == set(goal):
                    return many
                for step in steps:
                    other = Play(play.drill)
                    other.certain, other.written = set(play.certain), set(play.written)
                    other.lines, other.told = list(play.lines), play.told
                    other.do(step)
                    state = (frozenset(other.certain), frozenset(other.written), tuple(other.lines), other.told)
                    if state not in seen and not other.faults():
                        seen.add(state)
                        behind.append(other)
            row, many = behind, many + 1

    def test_fewest_steps(self):
        files = {"a": (1, 1), "b": (2, 2), "c": (1, 2)}
        for start, told, goal in itertools.product([(), ("a",), ("b", "a"), ("c",)], [0, 1, 2], [("b", "a"), ("c",)]):
            if told <= (files[start[0]][1] if start else 0):
                drill = made_drill(files, start, told, goal)
                self.assertEqual(len(drill), self.fewest(files, start, told, goal), (start, told, goal))
                self.hold(drill, files, start, told, goal)

    def hold(self, drill, files, start, told, goal):
        self.assertEqual((drill.files, drill.start, drill.told), (dict(sorted(files.items())), start, told))
        play, _, faults = played(drill)
        self.assertFalse(any(faults))
        self.assertEqual((play.lines, play.written), ([goal], set(goal)))
        self.assertEqual(play.told, max(pair[1] for pair in files.values()))
        self.assertTrue(is_useful(drill))
        self.assertTrue(judge_drill(drill))
        self.assertEqual(spare_steps(drill), [])

    def test_drawn(self):
        dice = random.Random(283)
        for _ in range(200):
            drill, goal = some_made(dice)
            self.hold(drill, drill.files, drill.start, drill.told, goal)
            # Each file of the goal alone is written and synced, each of the start alone dropped.
            many = 2 * len(set(goal) - set(drill.start)) + len(set(drill.start) - set(goal))
            many += (2 if goal != drill.start else 0) + (drill.told < drill.files[goal[0]][1])
            self.assertEqual(len(drill), many)

    def test_goal_is_the_start(self):
        self.assertEqual(made_drill(FILES, ("c",), 5, ("c",)).steps, ())
        self.assertEqual(made_drill(FILES, ("b", "a"), 3, ("b", "a")).steps, (TOLD,))
        self.assertEqual(self.fewest(FILES, ("c",), 5, ("c",)), 0)
        self.assertEqual(self.fewest(FILES, ("c",), 4, ("c",)), 1)

    def test_without_a_start(self):
        drill = made_drill(FILES, (), 0, ("b", "a"))
        self.assertEqual(len(drill), 7)
        self.hold(drill, FILES, (), 0, ("b", "a"))
        eight = {letter: (day, day) for day, letter in enumerate("abcdefgh", start=1)}
        drill = made_drill(eight, (), 0, tuple("hgfedcba"))
        self.assertEqual(len(drill), 19)
        self.hold(drill, eight, (), 0, tuple("hgfedcba"))

    def test_a_file_of_both_lists_is_kept(self):
        drill = made_drill({"a": (1, 4), "b": (5, 5)}, ("a",), 4, ("b", "a"))
        self.assertEqual(sorted(drill.steps), sorted([("write", "b"), ("sync", "b"), ("line", ("b", "a")), LIST, TOLD]))

    def test_greatest_days(self):
        files = {"a": (1, 999998), "b": (999999, 999999)}
        self.hold(made_drill(files, ("a",), 999998, ("b", "a")), files, ("a",), 999998, ("b", "a"))

    def test_what_is_given_is_not_changed(self):
        files = {"c": (1, 5), "a": (1, 4), "b": (5, 5)}
        made_drill(files, ("b", "a"), 5, ("c",))
        self.assertEqual(list(files.items()), [("c", (1, 5)), ("a", (1, 4)), ("b", (5, 5))])


class EvidenceTest(DrillsTest):
    def test_safe(self):
        drill = made_drill(FILES, ("b", "a"), 5, ("c",))
        found = judge_drill(drill)
        rows = found.rows
        for wrong in ([], rows[:-1], rows[1:], rows + rows[-1:], rows[::-1], [((), rows[0][1])] + rows[1:],
                      [(("b", "a"), rows[0][1])] + rows[1:], rows[:-1] + [(("c",), (("c",), ("c",)))],
                      rows[:3] + [(rows[3][0], rows[3][1][::-1])] + rows[4:], rows[:-1] + [(("c",), ())]):
            changed = SafeDrill(rows)
            self.assertTrue(changed.shows(drill))
            changed.rows = wrong
            self.assertFalse(changed.shows(drill))
            self.assertFalse(SafeDrill(wrong).shows(drill))
        self.assertFalse(found.shows(drill.with_steps(drill.steps[:-1])))
        self.assertFalse(FallsAt(4, ("b", "a"), "a").shows(drill))
        falling = drill.with_steps(drill.steps[2:])
        self.assertFalse(SafeDrill(played(falling)[1]).shows(falling))

    def test_falls(self):
        drill = Drill({"a": (1, 1), "b": (1, 1), "c": (3, 3)}, ("a",), 1, [("write", "b"), ("line", ("b",)), LIST])
        found = judge_drill(drill)
        self.assertEqual(found, FallsAt(2, ("b",), "b"))
        for steps, line, name in [(2, ("b",), None), (2, ("b",), "a"), (2, ("a",), "a"), (2, ("a",), None), (2, ("a",), "b"),
                                  (1, ("b",), "b"), (3, ("b",), "b"), (2, (), None), (2, ("c", "b"), "b"), (-1, ("b",), "b"),
                                  (10 ** 30, ("b",), "b"), (2, ("b",), "nix"), (2, ("nix",), "nix"), (2, ("nix",), None)]:
            self.assertFalse(FallsAt(steps, line, name).shows(drill))
        # Of a line that is not as it must be, a file that is not there for certain is told as well.
        drill = drill.with_steps([("line", ("c", "b"))])
        for name in (None, "b", "c"):
            self.assertTrue(FallsAt(1, ("c", "b"), name).shows(drill))
        self.assertFalse(FallsAt(1, ("c", "b"), "a").shows(drill))
        self.assertFalse(found.shows(drill))
        self.assertFalse(found.shows(drill.with_steps([])))

    def test_equal_and_copied(self):
        rows = [(("a",), (("a",),))]
        safe = SafeDrill(rows)
        self.assertEqual(SafeDrill(tuple(rows)), safe)
        self.assertIsInstance(SafeDrill(tuple(rows)).rows, list)
        rows.clear()
        self.assertEqual(safe.rows, [(("a",), (("a",),))])
        self.assertTrue(safe != SafeDrill([]) and safe != FallsAt(0, (), None) and safe != safe.rows)
        falls = FallsAt(1, ("a",), "a")
        self.assertTrue(falls == FallsAt(1, ("a",), "a"))
        for other in (FallsAt(2, ("a",), "a"), FallsAt(1, ("b",), "a"), FallsAt(1, ("a",), None), safe, None, 1):
            self.assertTrue(falls != other)
        self.assertEqual([bool(safe), bool(SafeDrill([])), bool(falls)], [True, True, False])


class WrongInputsTest(DrillsTest):
    def test_no_files(self):
        for wrong in NO_FILES:
            self.assert_bad(None, lambda: Drill(wrong, ("a",), 4, [TOLD]))
            self.assert_bad(None, lambda: Drill(wrong, ("a",), 4, [None]))
            self.assert_bad(None, lambda: made_drill(wrong, ("a",), 4, ("a",)))

    def test_no_start_and_no_day(self):
        for wrong in NO_LISTS:
            self.assert_bad(None, lambda: Drill(FILES, wrong, 4, [None]))
            self.assert_bad(None, lambda: made_drill(FILES, wrong, 0, ("c",)))
        for wrong in NO_TOLDS:
            self.assert_bad(None, lambda: Drill(FILES, ("a",), wrong, [None]))
            self.assert_bad(None, lambda: made_drill(FILES, ("c",), wrong, ("c",)))

    def test_no_steps(self):
        drill = Drill(FILES, ("a",), 4, [TOLD])
        for wrong in NO_STEP_LISTS:
            self.assert_bad(None, lambda: Drill(FILES, ("a",), 4, wrong))
            self.assert_bad(None, lambda: drill.with_steps(wrong))
        for wrong in NO_STEPS:
            self.assert_bad(0, lambda: Drill(FILES, ("a",), 4, [wrong, wrong]))
            self.assert_bad(2, lambda: drill.with_steps((TOLD, LIST, wrong, TOLD)))
        self.assertEqual(drill, Drill(FILES, ("a",), 4, [TOLD]))

    def test_no_drill(self):
        for wrong in [None, 3, "drill", [], (TOLD,), FILES, Drill, True]:
            for call in (judge_drill, spare_steps, SafeDrill([]).shows, FallsAt(0, (), None).shows):
                self.assert_bad(None, lambda: call(wrong))

    def test_no_lists_that_lie_side_by_side(self):
        files = {**FILES, "d": (6, 6)}
        for start, told, goal in [(("a", "b"), 0, ("d", "c")), (("b",), 0, ("d", "c")), (("a",), 5, ("d", "c")),
                                  ((), 1, ("d", "c")), (("c",), 6, ("d", "c")), (("a",), 0, ("c",)), (("a",), 0, ()),
                                  (("a",), 0, ("d",)), (("a",), 0, ("c", "d")), (("a",), 0, ("d", "a")),
                                  (("c", "c"), 0, ("d", "c")), (("a",), 0, ("d", "c", "c"))]:
            self.assert_bad(None, lambda: made_drill(files, start, told, goal))
        for wrong in NO_LISTS:
            if wrong != ("a", "d"):
                self.assert_bad(None, lambda: made_drill(files, ("a",), 0, wrong))
        self.assertTrue(judge_drill(made_drill(files, ("a",), 4, ("d", "c"))))


if __name__ == "__main__":
    unittest.main()
