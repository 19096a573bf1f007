"""Point [22], bake, and the interface's section baking.py."""

import inspect
import random
import unittest

from histories import LAST, History, kept, rows_of
from siltstore import baking, errors
from siltstore.baking import bake
from siltstore.layers import Layer, layer_of
from siltstore.sheeterrors import BadDay, BadLayers
from siltstore.sheets import Sheet

LAST_KEY = 999999
NO_LAYERS = [None, 3, "layers", {}, {1: 2}, True, Sheet({}), Layer, b"", iter([])]
NO_PINS = [None, 3, "3", {3: 1}, {3}, range(3), True, iter([3])]
NO_PIN = [-1, True, False, None, "1", 1.0, [1], (1,), -10 ** 30]


def some_pins(dice, last):
    return [dice.randint(0, last + 2) for _ in range(dice.choice([0, 0, 1, 2, 5]))]


class LayersTest(unittest.TestCase):
    def assert_bad_layers(self, place, call):
        with self.assertRaises(BadLayers) as caught:
            call()
        self.assertEqual(caught.exception.place, place)


class BakeTest(LayersTest):
    def test_names(self):
        self.assertEqual(bake.__module__, "siltstore.baking")
        self.assertEqual(str(inspect.signature(baking.bake)), "(layers, pins=(), *, is_bottom=False)")
        self.assertRaises(TypeError, bake, [layer_of(1, Sheet({}))], [], True)

    def test_example(self):
        layers = [layer_of(3, Sheet({}, [], [(1, 4)])), layer_of(2, Sheet({2: "b"})), layer_of(1, Sheet({2: "a"}))]
        told = [bake(layers).rows, bake(layers, [2]).versions(2), bake(layers, [1], is_bottom=True).rows]
        self.assertEqual(told, [((1, 4, ((3, None),)),), ((3, None), (2, "b")), ((2, 2, ((3, None), (1, "a"))),)])

    def test_key_by_key(self):
        dice = random.Random(221)
        for _ in range(150):
            history = History(dice, dice.randint(1, 9))
            days = len(history.sheets)
            first = dice.randint(1, days)
            last = dice.randint(first, days)
            pins, is_bottom = some_pins(dice, days), dice.random() < 0.5
            layer = bake(dice.choice([list, tuple])(history.layers(first, last)), dice.choice([list, tuple])(pins),
                         is_bottom=is_bottom)
            wanted = [kept(history.versions(key, first, last), pins, is_bottom) for key in range(LAST + 1)]
            self.assertIsInstance(layer, Layer)
            self.assertEqual((layer.first, layer.last), (first, last))
            self.assertEqual([layer.versions(key) for key in range(LAST + 1)], wanted)
            self.assertEqual(layer.rows, rows_of(wanted))
            for row in layer.rows:
                self.assertTrue(isinstance(row, tuple) and isinstance(row[2], tuple) and row[0] <= row[1])

    def test_layer_by_layer(self):
        dice = random.Random(222)
        for _ in range(120):
            days = dice.randint(2, 10)
            history = History(dice, days)
            pins, is_bottom = some_pins(dice, days), dice.random() < 0.5
            once = bake(history.layers(), pins, is_bottom=is_bottom)
            layers = history.layers()
            while len(layers) > 1:
                many = dice.randint(2, len(layers))
                place = dice.randint(0, len(layers) - many)
                # What is baked ahead of the last bake may be baked at the bottom already, if it lies there.
                bottom = is_bottom and place + many == len(layers)
                layers[place:place + many] = [bake(layers[place:place + many], pins, is_bottom=bottom)]
            self.assertEqual(layers[0], once)
            # What was baked already is baked again without a change.
            self.assertEqual(bake([once], pins, is_bottom=is_bottom), once)

    def test_fewer_pins_later(self):
        dice = random.Random(223)
        for _ in range(60):
            history = History(dice, 7)
            pins = some_pins(dice, 7) + [3]
            fewer = [pin for pin in pins if dice.random() < 0.5]
            self.assertEqual(bake([bake(history.layers(), pins)], fewer), bake(history.layers(), fewer))

    def test_pins(self):
        layers = [layer_of(day, Sheet({5: f"d{day}"}) if day in (2, 5, 9) else Sheet({})) for day in range(10, 0, -1)]
        nine, five, two = (9, "d9"), (5, "d5"), (2, "d2")
        for pins, wanted in [([], (nine,)), ([0], (nine,)), ([1], (nine,)), ([2], (nine, two)), ([4], (nine, two)),
                             ([5], (nine, five)), ([8], (nine, five)), ([9], (nine,)), ([10], (nine,)),
                             ([11], (nine,)), ([10 ** 30], (nine,)), ([8, 3], (nine, five, two)), ([7, 7], (nine, five)),
                             ([0, 1, 9, 10], (nine,)), (list(range(11)), (nine, five, two))]:
            self.assertEqual(bake(layers, pins).rows, ((5, 5, wanted),))
            self.assertEqual(bake(layers, tuple(pins), is_bottom=True).versions(5), wanted)

    def test_one_layer_alone(self):
        sheet = Sheet({2: "b", 3: "c"}, [9], [(4, 6)])
        layer = layer_of(7, sheet)
        self.assertEqual(bake([layer]), layer)
        self.assertEqual(bake((layer,), [7]), layer)
        baked = bake([layer], is_bottom=True)
        self.assertEqual(baked.rows, ((2, 2, ((7, "b"),)), (3, 3, ((7, "c"),))))
        self.assertEqual((baked.first, baked.last), (7, 7))

    def test_gone_at_the_bottom(self):
        values = ["a", None, None, "b", None, None]
        layers = [layer_of(day + 1, Sheet({5: value}) if value else Sheet({}, [5]))
                  for day, value in reversed(list(enumerate(values)))]
        every = list(range(9))
        for many in range(1, 7):
            # The oldest layers, but for so many of them.
            part = layers[:many]
            versions = tuple((layer.first, values[layer.first - 1]) for layer in part)
            left = versions
            while left and left[-1][1] is None:
                left = left[:-1]
            self.assertEqual(bake(part, every).versions(5), versions)
            self.assertEqual(bake(part, every, is_bottom=True).versions(5), left)
        self.assertEqual(bake(layers[:2], every, is_bottom=True).rows, ())
        self.assertEqual(bake(layers[:1], is_bottom=True).rows, ())
        self.assertEqual(bake(layers[:3], every, is_bottom=True).versions(5), ((6, None), (5, None), (4, "b")))
        self.assertEqual(bake(layers[2:5], [4, 3, 2], is_bottom=True).rows, ((5, 5, ((4, "b"),)),))

    def test_nothing_is_left(self):
        layers = [layer_of(2, Sheet({}, [4], [(7, 9)])), layer_of(1, Sheet({}))]
        baked = bake(layers, [1], is_bottom=True)
        self.assertEqual((baked.first, baked.last, baked.rows), (1, 2, ()))
        self.assertEqual((baked.versions(8), baked.has(8)), ((), False))
        self.assertEqual(bake([layer_of(2, Sheet({})), layer_of(1, Sheet({}))]).rows, ())

    def test_other_days_are_another_layer(self):
        one, two, three = [layer_of(day, Sheet({})) for day in (1, 2, 3)]
        self.assertTrue(bake([two, one]) == bake([two, one], [1]))
        for other in (two, one, bake([three, two]), bake([three, two, one])):
            self.assertTrue(bake([two, one]) != other)

    def test_stretches_are_as_long_as_can_be(self):
        layers = [layer_of(3, Sheet({}, [], [(0, LAST_KEY)])), layer_of(2, Sheet({4: "a", 6: "b"}, [], [(1, 5)])),
                  layer_of(1, Sheet({}, [], [(3, 9)]))]
        self.assertEqual(bake(layers).rows, ((0, LAST_KEY, ((3, None),)),))
        gone = (3, None)
        self.assertEqual(bake(layers, [2]).rows, (
            (0, 0, (gone,)), (1, 3, (gone, (2, None))), (4, 4, (gone, (2, "a"))), (5, 5, (gone, (2, None))),
            (6, 6, (gone, (2, "b"))), (7, 9, (gone, (1, None))), (10, LAST_KEY, (gone,))))
        self.assertEqual(bake(layers, [2], is_bottom=True).rows,
                         ((4, 4, (gone, (2, "a"))), (6, 6, (gone, (2, "b")))))
        # Neighbours with the same values are stretches of their own.
        side = [layer_of(2, Sheet({1: "a", 2: "a"})), layer_of(1, Sheet({1: "b", 2: "b"}))]
        self.assertEqual([row[:2] for row in bake(side, [1]).rows], [(1, 1), (2, 2)])

    def test_both_ends_of_all_keys(self):
        layers = [layer_of(2, Sheet({0: "a", LAST_KEY: "b"})), layer_of(1, Sheet({}, [], [(0, LAST_KEY)]))]
        self.assertEqual(bake(layers, [1]).rows, ((0, 0, ((2, "a"), (1, None))), (1, LAST_KEY - 1, ((1, None),)),
                                                  (LAST_KEY, LAST_KEY, ((2, "b"), (1, None)))))
        self.assertEqual(bake(layers, [1], is_bottom=True).rows,
                         ((0, 0, ((2, "a"),)), (LAST_KEY, LAST_KEY, ((2, "b"),))))

    def test_many_layers(self):
        days = 300
        layers = [layer_of(day, Sheet({day % 50: f"v{day}", 50 + day: "x"}, [], [(400, 400 + day)]))
                  for day in range(days, 0, -1)]
        baked = bake(layers, [100])
        self.assertEqual(baked.versions(7), ((257, "v257"), (57, "v57")))
        self.assertEqual(baked.versions(400), ((300, None), (100, None)))
        self.assertEqual(baked.versions(700), ((300, None),))
        self.assertEqual((baked.first, baked.last), (1, days))

    def test_arguments_are_not_changed(self):
        history = History(random.Random(224), 5)
        layers, pins = history.layers(), [3, 1, 3]
        baked = bake(layers, pins, is_bottom=True)
        self.assertEqual((layers, pins), (history.layers(), [3, 1, 3]))
        layers.clear()
        pins.clear()
        self.assertEqual(baked, bake(history.layers(), [3, 1], is_bottom=True))


class WrongInputsTest(LayersTest):
    def test_no_layers(self):
        for wrong in NO_LAYERS + [[], ()]:
            self.assert_bad_layers(None, lambda: bake(wrong))
            self.assert_bad_layers(None, lambda: bake(wrong, None))
        self.assert_bad_layers(None, lambda: bake(layer_of(1, Sheet({}))))

    def test_no_layer_at_a_place(self):
        five, four, three = [layer_of(day, Sheet({day: "a"})) for day in (5, 4, 3)]
        for wrong in [None, 3, [four], (four,), Sheet({4: "a"}), four.rows, "layer", True]:
            self.assert_bad_layers(0, lambda: bake([wrong], None))
            self.assert_bad_layers(0, lambda: bake([wrong, four, three]))
            self.assert_bad_layers(1, lambda: bake([five, wrong, three], [-1]))
            self.assert_bad_layers(2, lambda: bake((five, four, wrong)))

    def test_not_right_below(self):
        six, five, four, three = [layer_of(day, Sheet({day: "a"})) for day in (6, 5, 4, 3)]
        low = bake([four, three])
        for layers, place in [([five, three], 1), ([five, five], 1), ([four, five], 1), ([six, five, low, low], 3),
                              ([six, low], 1), ([low, six], 1), ([five, four, low], 2), ([five, low, four], 2),
                              ([six, five, low, three], 3), ([five, four, five, None], 2)]:
            self.assert_bad_layers(place, lambda: bake(layers))
            self.assert_bad_layers(place, lambda: bake(layers, [-1]))
        self.assertEqual(bake([six, five, low]).versions(3), ((3, "a"),))

    def test_no_pins(self):
        layers = [layer_of(2, Sheet({2: "a"})), layer_of(1, Sheet({2: "b"}))]
        for wrong in NO_PINS + [[wrong] for wrong in NO_PIN] + [(1, wrong) for wrong in NO_PIN]:
            with self.assertRaises(BadDay) as caught:
                bake(layers, wrong)
            self.assertNotIsInstance(caught.exception, errors.BadDay)
        self.assertEqual(layers, [layer_of(2, Sheet({2: "a"})), layer_of(1, Sheet({2: "b"}))])


if __name__ == "__main__":
    unittest.main()
