"""Point [21] and the interface's sections sheeterrors.py and sheets.py."""

import random
import unittest

from siltstore import errors, sheeterrors, sheets
from siltstore.errors import SiltError
from siltstore.sheeterrors import BadKey, BadSheet
from siltstore.sheets import Sheet

LAST = 999999
NO_KEYS = [-1, LAST + 1, 10 ** 30, -10 ** 30, True, False, None, "1", 1.0, (1,), [1], {1: 1}, b"1"]
NO_VALUES = ["", "a" * 13, "A", "a b", " ", "a-b", "\n", "a\n", "\u00e9", "\u0662", "\u00b2", None, 1, True, b"a",
             ["a"], ("a",), 0]


def some_sheet(dice, last=30):
    """What is given to a sheet, and which of the keys up to a last one are gone."""
    keys = dice.sample(range(last + 1), dice.randint(0, 10))
    leaves = {key: dice.choice(["a", "b9", "0", "z" * 12]) for key in keys}
    others = [key for key in range(last + 1) if key not in leaves]
    marks = [dice.choice(others) for _ in range(dice.randint(0, 5))]
    ranges = []
    for _ in range(dice.randint(0, 4)):
        first = dice.randint(0, last)
        ranges.append((first, dice.randint(first, min(last, first + 8))))
    gone = [any(first <= key <= other for first, other in ranges) and key not in leaves or key in marks
            for key in range(last + 1)]
    return leaves, marks, ranges, gone


def stretches(told):
    """The stretches of the keys for which something is told."""
    found = []
    for key, is_so in enumerate(told):
        if is_so and key and told[key - 1]:
            found[-1] = (found[-1][0], key)
        elif is_so:
            found.append((key, key))
    return tuple(found)


class ErrorsTest(unittest.TestCase):
    def test_direct_subclasses(self):
        for name in ("BadSheet BadLayers BadDay BadKey BadScript BadDrill BadPolicy BadText NothingDone").split():
            kind = getattr(sheeterrors, name)
            self.assertEqual((kind.__module__, kind.__bases__), ("siltstore.sheeterrors", (SiltError,)))
        for name in ("BadDay", "BadText"):
            kind, other = getattr(sheeterrors, name), getattr(errors, name)
            self.assertFalse(issubclass(kind, other) or issubclass(other, kind))

    def test_attributes(self):
        for name in ("BadLayers", "BadScript", "BadDrill"):
            for place in (None, 0, 7):
                self.assertEqual(getattr(sheeterrors, name)(place).place, place)
        wrong = sheeterrors.BadText(3, 4)
        self.assertEqual((wrong.line, wrong.column), (3, 4))


class SheetTest(unittest.TestCase):
    def test_names(self):
        self.assertEqual(sheets.Sheet.__module__, "siltstore.sheets")
        for name in ("__init__", "__eq__", "__len__", "__contains__", "is_gone"):
            self.assertIn(name, vars(Sheet))
        sheet = Sheet(leaves={1: "a"}, marks=[2], ranges=[(3, 4)])
        self.assertEqual((sheet.leaves, sheet.gone, sheet.is_gone(key=3)), ({1: "a"}, ((2, 4),), True))

    def test_example(self):
        sheet = Sheet({7: "a", 12: "b"}, [9], [(3, 8), (10, 11)])
        told = [sheet.gone, len(sheet), sheet.is_gone(7), sheet == Sheet({12: "b", 7: "a"}, [], [(3, 11)])]
        self.assertEqual(told, [((3, 6), (8, 11)), 2, False, True])

    def test_key_by_key(self):
        dice = random.Random(131)
        for _ in range(300):
            leaves, marks, ranges, gone = some_sheet(dice)
            sheet = Sheet(leaves, dice.choice([list, tuple])(marks), dice.choice([list, tuple])(ranges))
            self.assertEqual([sheet.is_gone(key) for key in range(31)], gone)
            self.assertEqual([key in sheet for key in range(31)], [key in leaves for key in range(31)])
            self.assertEqual(sheet.gone, stretches(gone))
            self.assertEqual(list(sheet.leaves.items()), sorted(leaves.items()))
            self.assertEqual(len(sheet), len(leaves))
            self.assertEqual(sheet, Sheet(leaves, [], sheet.gone))
            self.assertEqual(sheet, Sheet(sheet.leaves, [key for key in range(31) if gone[key]]))

    def test_nothing_told(self):
        for sheet in (Sheet({}), Sheet({}, [], []), Sheet({}, (), ())):
            self.assertEqual((sheet.leaves, sheet.gone, len(sheet)), ({}, (), 0))
            self.assertEqual([0 in sheet, sheet.is_gone(0)], [False, False])
            self.assertEqual(sheet, Sheet({}))

    def test_both_ends_of_all_keys(self):
        sheet = Sheet({0: "a", LAST: "b"}, [1, LAST - 1])
        self.assertEqual((sheet.gone, 0 in sheet, LAST in sheet), (((1, 1), (LAST - 1, LAST - 1)), True, True))
        sheet = Sheet({}, (), [(0, LAST)])
        self.assertEqual((sheet.gone, sheet.is_gone(0), sheet.is_gone(LAST)), (((0, LAST),), True, True))
        sheet = Sheet({0: "a", 500000: "b", LAST: "c"}, (), [(0, LAST)])
        self.assertEqual(sheet.gone, ((1, 499999), (500001, LAST - 1)))
        self.assertEqual(Sheet({}, [0, LAST], [(1, LAST - 1)]).gone, ((0, LAST),))
        self.assertEqual(Sheet({5: "a"}, (), [(0, 5), (5, 5), (6, LAST)]).gone, ((0, 4), (6, LAST)))

    def test_ranges(self):
        for ranges, gone in [([(4, 4)], ((4, 4),)), ([(4, 6), (5, 9)], ((4, 9),)), ([(4, 6), (7, 9)], ((4, 9),)),
                             ([(4, 6), (8, 9)], ((4, 6), (8, 9))), ([(8, 9), (4, 6)], ((4, 6), (8, 9))),
                             ([(1, 9), (4, 6)], ((1, 9),)), ([(4, 6), (1, 9), (4, 6)], ((1, 9),)),
                             ([(1, 2), (3, 3), (2, 3), (4, 4)], ((1, 4),))]:
            self.assertEqual(Sheet({}, [], ranges).gone, gone)
        self.assertEqual(Sheet({4: "a"}, [], [(4, 4)]).gone, ())
        self.assertEqual(Sheet({4: "a", 5: "b", 6: "c"}, [], [(4, 6)]).gone, ())
        self.assertEqual(Sheet({4: "a", 6: "c"}, [], [(4, 6)]).gone, ((5, 5),))
        self.assertEqual(Sheet({4: "a", 6: "c"}, [], [(3, 7)]).gone, ((3, 3), (5, 5), (7, 7)))

    def test_marks(self):
        self.assertEqual(Sheet({}, [5], [(4, 6)]).gone, ((4, 6),))
        self.assertEqual(Sheet({}, [7, 3], [(4, 6)]).gone, ((3, 7),))
        self.assertEqual(Sheet({}, [3, 1, 2, 9]).gone, ((1, 3), (9, 9)))
        self.assertEqual(Sheet({}, [3, 3, 3]).gone, ((3, 3),))
        self.assertEqual(Sheet({2: "a"}, [1, 3]).gone, ((1, 1), (3, 3)))

    def test_values(self):
        for value in ("a", "z", "0", "9", "abc", "a1b2", "z" * 12, "0" * 12, "list", "gone"):
            self.assertEqual(Sheet({4: value}).leaves, {4: value})

    def test_equal(self):
        sheet = Sheet({1: "a", 5: "b"}, [3])
        for like in (Sheet({5: "b", 1: "a"}, (3, 3)), Sheet({1: "a", 5: "b"}, [], [(3, 3)])):
            self.assertTrue(sheet == like)
            self.assertFalse(sheet != like)
        for other in (Sheet({1: "a", 5: "b"}), Sheet({1: "a", 5: "c"}, [3]), Sheet({1: "a"}, [3]),
                      Sheet({1: "a", 5: "b"}, [4]), Sheet({1: "a", 5: "b"}, [3, 4]), None, {1: "a", 5: "b"}, 2):
            self.assertFalse(sheet == other)
            self.assertTrue(sheet != other)

    def test_in_what_is_no_key(self):
        sheet = Sheet({0: "a", 1: "b"})
        self.assertEqual([0 in sheet, 1 in sheet, 2 in sheet], [True, True, False])
        for wrong in NO_KEYS:
            self.assertIs(wrong in sheet, False)

    def test_copied(self):
        leaves, marks, ranges = {5: "b", 1: "a"}, [3], [(8, 9)]
        sheet = Sheet(leaves, marks, ranges)
        self.assertEqual((leaves, marks, ranges), ({5: "b", 1: "a"}, [3], [(8, 9)]))
        leaves[3] = "c"
        marks.append(4)
        ranges.clear()
        self.assertEqual((sheet.leaves, sheet.gone), ({1: "a", 5: "b"}, ((3, 3), (8, 9))))
        self.assertEqual(list(sheet.leaves), [1, 5])


class ManyThingsTest(unittest.TestCase):
    def test_60_things(self):
        for many, marked, ranged in [(60, 0, 0), (0, 60, 0), (0, 0, 60), (20, 20, 20)]:
            for more in range(4):
                counts = [many + (more == 1), marked + (more == 2), ranged + (more == 3)]
                leaves = {key: "a" for key in range(counts[0])}
                marks = [1000 + key for key in range(counts[1])]
                ranges = [(2000 + 2 * key, 2001 + 2 * key) for key in range(counts[2])]
                if more:
                    self.assertRaises(BadSheet, Sheet, leaves, marks, ranges)
                else:
                    self.assertEqual(len(Sheet(leaves, marks, ranges)), many)

    def test_things_told_twice(self):
        self.assertEqual(Sheet({}, [7] * 60).gone, ((7, 7),))
        self.assertRaises(BadSheet, Sheet, {}, [7] * 61)
        self.assertEqual(Sheet({}, [], [(7, 8)] * 60).gone, ((7, 8),))
        self.assertRaises(BadSheet, Sheet, {}, [7] * 30, [(7, 8)] * 31)

    def test_60_leaves_and_stretches(self):
        leaves = {2 * key: "a" for key in range(1, 30)}
        sheet = Sheet(leaves, [], [(1, 59)])
        self.assertEqual((len(sheet), len(sheet.gone)), (29, 30))
        sheet = Sheet({**leaves, 100: "a"}, [], [(1, 59)])
        self.assertEqual(len(sheet) + len(sheet.gone), 60)
        self.assertRaises(BadSheet, Sheet, {**leaves, 60: "a"}, [], [(1, 61)])
        self.assertRaises(BadSheet, Sheet, {**leaves, 100: "a"}, [102], [(1, 59)])
        self.assertRaises(BadSheet, Sheet, {**leaves, 100: "a", 102: "a"}, [], [(1, 59)])
        sheet = Sheet({**leaves, 100: "a"}, [60], [(1, 59)])
        self.assertEqual(sheet.gone[-1], (59, 60))


class WrongInputsTest(unittest.TestCase):
    def test_no_leaves(self):
        for wrong in [None, [], (), [(1, "a")], "a", 1, {1}]:
            self.assertRaises(BadSheet, Sheet, wrong)
        for wrong in NO_KEYS:
            if not isinstance(wrong, (list, dict)):
                self.assertRaises(BadSheet, Sheet, {wrong: "a"})
                self.assertRaises(BadSheet, Sheet, {5: "a", wrong: "a"})
        for wrong in NO_VALUES:
            self.assertRaises(BadSheet, Sheet, {5: wrong})
            self.assertRaises(BadSheet, Sheet, {4: "a", 5: wrong})

    def test_no_marks(self):
        for wrong in [None, 5, "5", {5: 5}, {5}, range(3), iter([5])]:
            self.assertRaises(BadSheet, Sheet, {}, wrong)
        for wrong in NO_KEYS:
            self.assertRaises(BadSheet, Sheet, {}, [wrong])
            self.assertRaises(BadSheet, Sheet, {}, (5, wrong))

    def test_a_mark_on_a_leaf(self):
        self.assertRaises(BadSheet, Sheet, {5: "a"}, [5])
        self.assertRaises(BadSheet, Sheet, {5: "a"}, [4, 5], [(1, 9)])
        self.assertEqual(Sheet({5: "a"}, [4], [(1, 9)]).gone, ((1, 4), (6, 9)))

    def test_no_ranges(self):
        for wrong in [None, 5, (1, 2), [1, 2], [[1, 2]], ([1, 2],), [(1,)], [(1, 2, 3)], [()], [(2, 1)], [(5, 4)],
                      {1: 2}, {(1, 2)}, "12", ["12"], [None], [(1, 2), (4, 3)], [(1, 2), [3, 4]], iter([(1, 2)])]:
            self.assertRaises(BadSheet, Sheet, {}, (), wrong)
        for wrong in NO_KEYS:
            self.assertRaises(BadSheet, Sheet, {}, (), [(wrong, 5)])
            self.assertRaises(BadSheet, Sheet, {}, (), [(0, wrong)])
            self.assertRaises(BadSheet, Sheet, {}, (), [(1, 2), (wrong, wrong)])

    def test_what_is_refused_changes_nothing(self):
        leaves, marks, ranges = {5: "b", 1: "a"}, [3, 1], [(8, 9)]
        self.assertRaises(BadSheet, Sheet, leaves, marks, ranges)
        self.assertEqual((list(leaves.items()), marks, ranges), ([(5, "b"), (1, "a")], [3, 1], [(8, 9)]))
        sheet = Sheet(leaves, [3], ranges)
        self.assertRaises(BadKey, sheet.is_gone, -1)
        self.assertEqual(sheet, Sheet(leaves, [3], ranges))

    def test_no_key(self):
        for sheet in (Sheet({}), Sheet({5: "a"}, [], [(0, LAST)])):
            for wrong in NO_KEYS:
                self.assertRaises(BadKey, sheet.is_gone, wrong)
            self.assertIn(sheet.is_gone(LAST), (True, False))


if __name__ == "__main__":
    unittest.main()
