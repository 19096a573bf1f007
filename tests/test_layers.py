"""Point [22], but for bake, and the interface's section layers.py."""

import random
import unittest

from siltstore import errors
from siltstore.layers import Layer, layer_of
from siltstore.sheeterrors import BadDay, BadKey, BadSheet
from siltstore.sheets import Sheet
from test_sheets import LAST, NO_KEYS, some_sheet

NO_DAYS = [0, -1, -10 ** 30, True, False, None, "1", 1.0, [1], (1,)]
NO_SHEETS = [None, {}, {1: "a"}, [], "sheet", 1, Sheet]


class LayerTest(unittest.TestCase):
    def test_names(self):
        self.assertEqual([Layer.__module__, layer_of.__module__], ["siltstore.layers"] * 2)
        for name in ("__eq__", "versions", "has"):
            self.assertIn(name, vars(Layer))
        layer = layer_of(day=3, sheet=Sheet({2: "b"}))
        self.assertIsInstance(layer, Layer)
        self.assertEqual((layer.first, layer.last, layer.rows), (3, 3, ((2, 2, ((3, "b"),)),)))
        self.assertEqual([layer.versions(key=2), layer.has(key=2)], [((3, "b"),), True])

    def test_rows(self):
        sheet = Sheet({7: "a", 12: "b", 13: "b"}, [9], [(3, 8), (10, 11)])
        rows = ((3, 6, ((5, None),)), (7, 7, ((5, "a"),)), (8, 11, ((5, None),)), (12, 12, ((5, "b"),)),
                (13, 13, ((5, "b"),)))
        self.assertEqual(layer_of(5, sheet).rows, rows)
        self.assertEqual(layer_of(3, Sheet({}, [], [(1, 4)])).rows, ((1, 4, ((3, None),)),))
        self.assertEqual(layer_of(1, Sheet({}, [], [(0, LAST)])).rows, ((0, LAST, ((1, None),)),))
        for row in rows:
            self.assertTrue(isinstance(row, tuple) and isinstance(row[2], tuple) and isinstance(row[2][0], tuple))

    def test_key_by_key(self):
        dice = random.Random(141)
        for _ in range(200):
            leaves, marks, ranges, gone = some_sheet(dice)
            day = dice.choice([1, 2, 99, 10 ** 30])
            layer = layer_of(day, Sheet(leaves, marks, ranges))
            wanted = [((day, leaves[key]),) if key in leaves else ((day, None),) if gone[key] else ()
                      for key in range(31)]
            self.assertEqual([layer.versions(key) for key in range(31)], wanted)
            self.assertEqual([layer.versions(key) for key in (31, 32, LAST)], [()] * 3)
            told = [key for key in range(31) if wanted[key]]
            self.assertEqual([layer.has(key) for key in range(31)],
                             [bool(told) and told[0] <= key <= told[-1] for key in range(31)])
            self.assertEqual((layer.first, layer.last), (day, day))
            rebuilt = []
            for first, last, versions in layer.rows:
                self.assertTrue(versions and first <= last)
                self.assertTrue(first == last or versions == ((day, None),))
                # Stretches are as long as can be: two that are gone do not touch.
                if rebuilt and rebuilt[-1] == first - 1:
                    self.assertFalse(versions[0][1] is None and wanted[first - 1] == versions)
                for key in range(first, last + 1):
                    self.assertEqual(wanted[key], versions)
                    rebuilt.append(key)
            self.assertEqual(rebuilt, told)

    def test_has_between(self):
        layer = layer_of(4, Sheet({10: "a", 20: "b"}, [15]))
        self.assertEqual([layer.has(key) for key in (0, 9, 10, 11, 15, 19, 20, 21, LAST)],
                         [False, False, True, True, True, True, True, False, False])
        self.assertEqual([layer.versions(key) for key in (9, 10, 11, 15, 20, 21)],
                         [(), ((4, "a"),), (), ((4, None),), ((4, "b"),), ()])
        self.assertIs(layer.has(12), True)

    def test_a_sheet_that_tells_of_nothing(self):
        layer = layer_of(4, Sheet({}))
        self.assertEqual((layer.first, layer.last, layer.rows), (4, 4, ()))
        for key in (0, 1, 500, LAST):
            self.assertEqual((layer.versions(key), layer.has(key)), ((), False))
            self.assertIs(layer.has(key), False)

    def test_both_ends_of_all_keys(self):
        layer = layer_of(1, Sheet({0: "a", LAST: "z"}))
        self.assertEqual([layer.has(0), layer.has(5), layer.has(LAST)], [True] * 3)
        self.assertEqual([layer.versions(0), layer.versions(5), layer.versions(LAST)], [((1, "a"),), (), ((1, "z"),)])

    def test_60_rows(self):
        layer = layer_of(9, Sheet({3 * key: "k" for key in range(60)}))
        self.assertEqual(len(layer.rows), 60)
        self.assertEqual([bool(layer.versions(key)) for key in range(180)], [key % 3 == 0 for key in range(180)])

    def test_equal(self):
        layer = layer_of(4, Sheet({10: "a"}, [15]))
        self.assertTrue(layer == layer_of(4, Sheet({10: "a"}, [], [(15, 15)])))
        self.assertFalse(layer != layer_of(4, Sheet({10: "a"}, (15,))))
        for other in (layer_of(5, Sheet({10: "a"}, [15])), layer_of(4, Sheet({10: "b"}, [15])),
                      layer_of(4, Sheet({10: "a"})), layer_of(4, Sheet({})), None, layer.rows, 4):
            self.assertFalse(layer == other)
            self.assertTrue(layer != other)
        self.assertFalse(layer_of(4, Sheet({})) == layer_of(5, Sheet({})))

    def test_the_sheet_is_not_kept(self):
        sheet = Sheet({10: "a"}, [15])
        layer = layer_of(4, sheet)
        sheet.leaves[11] = "b"
        self.assertEqual(layer, layer_of(4, Sheet({10: "a"}, [15])))


class WrongInputsTest(unittest.TestCase):
    def test_no_day(self):
        for wrong in NO_DAYS:
            for sheet in [Sheet({1: "a"})] + NO_SHEETS:
                with self.assertRaises(BadDay) as caught:
                    layer_of(wrong, sheet)
                self.assertNotIsInstance(caught.exception, errors.BadDay)

    def test_no_sheet(self):
        for wrong in NO_SHEETS:
            self.assertRaises(BadSheet, layer_of, 1, wrong)
        self.assertRaises(BadSheet, layer_of, 1, layer_of(1, Sheet({})))

    def test_no_key(self):
        for layer in (layer_of(1, Sheet({})), layer_of(1, Sheet({1: "a"}, [], [(0, LAST)]))):
            for wrong in NO_KEYS:
                self.assertRaises(BadKey, layer.versions, wrong)
                self.assertRaises(BadKey, layer.has, wrong)


if __name__ == "__main__":
    unittest.main()
