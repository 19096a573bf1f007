"""Points [23] and [24] and the interface's section stores.py."""

import inspect
import random
import types
import unittest

from histories import LAST, History
from siltstore import errors, stores
from siltstore.baking import bake
from siltstore.layers import layer_of
from siltstore.sheeterrors import BadDay, BadKey, BadLayers, BadSheet
from siltstore.sheets import Sheet
from siltstore.stores import SameStores, Store, UnlikeStores, judge_same
from test_baking import NO_LAYERS, NO_PIN, NO_PINS, LayersTest
from test_layers import NO_SHEETS
from test_sheets import NO_KEYS

LAST_KEY = 999999
NO_ASKED = [-1, True, False, "1", 1.0, [1], (1,), -10 ** 30]


def store_of(history):
    return Store(history.layers())


def some_bake(dice, store):
    first = dice.randint(0, len(store) - 1)
    return first, dice.randint(1, len(store) - first)


class StoreTest(LayersTest):
    def test_names(self):
        self.assertEqual({part.__module__ for part in (Store, SameStores, UnlikeStores, judge_same)},
                         {"siltstore.stores"})
        for name in "__init__ __eq__ __len__ today behind baked versions read opened walk next_key last_key".split():
            self.assertIn(name, vars(Store))
        for kind in (SameStores, UnlikeStores):
            for name in "__init__ __eq__ __bool__ shows".split():
                self.assertIn(name, vars(kind))
        told = {name: str(inspect.signature(getattr(Store, name))) for name in
                ("baked", "behind", "read", "opened", "walk", "next_key", "last_key", "versions")}
        self.assertEqual(told, {
            "baked": "(self, first, many, pins=())", "behind": "(self, sheet)", "read": "(self, key, day=None)",
            "opened": "(self, key, day=None)", "walk": "(self, low=0, high=999999, day=None)",
            "next_key": "(self, key, day=None)", "last_key": "(self, key, day=None)", "versions": "(self, key)"})
        self.assertEqual(str(inspect.signature(stores.judge_same)), "(one, other, days)")

    def test_example(self):
        store = Store().behind(Sheet({5: "a", 8: "b"})).behind(Sheet({6: "c"}, [], [(7, 9)]))
        told = [store.read(8), store.read(8, 1), list(store.walk()), store.opened(5), store.last_key(9, 1)]
        self.assertEqual(told, [None, "b", [(5, "a"), (6, "c")], [1], 8])
        late = store.baked(0, 2)
        told = [judge_same(store, late, [2]).tried, judge_same(store, late, [1, 2]).key]
        self.assertEqual(told, [[0, 5, 6, 7, 8, 9, 10], 8])

    def test_without_layers(self):
        for store in (Store(), Store([]), Store(())):
            self.assertEqual((store.layers, len(store), store.today()), ((), 0, 0))
            for day in (None, 0):
                for key in (0, 5, LAST_KEY):
                    self.assertEqual([store.read(key, day), store.opened(key, day), store.versions(key)],
                                     [None, [], []])
                    self.assertEqual([store.next_key(key, day), store.last_key(key, day)], [None, None])
                self.assertEqual(list(store.walk(day=day)), [])
            self.assertRaises(BadDay, store.read, 5, 1)
            self.assert_bad_layers(None, lambda: store.baked(0, 1))
            self.assertEqual(store, Store())

    def test_layers(self):
        history = History(random.Random(231), 5)
        layers = history.layers()
        for given in (layers, tuple(layers), [bake(layers[:2]), *layers[2:]], [bake(layers)]):
            store = Store(given)
            self.assertIsInstance(store.layers, tuple)
            self.assertEqual(store.layers, tuple(given))
            self.assertEqual((len(store), store.today()), (len(given), 5))
            self.assertTrue(store == Store(list(given)))
        self.assertEqual(Store(layers=layers), Store(layers))
        for other in (Store(layers[1:]), Store([bake(layers)]), Store(), None, layers, 5):
            self.assertFalse(Store(layers) == other)
            self.assertTrue(Store(layers) != other)

    def test_behind(self):
        history = History(random.Random(232), 6)
        store = Store()
        for day, sheet in enumerate(history.sheets, start=1):
            ahead = store
            store = ahead.behind(sheet)
            self.assertEqual((ahead.today(), store.today(), len(store)), (day - 1, day, day))
            self.assertEqual(store.layers, tuple(history.layers(1, day)))
        self.assertEqual(store, store_of(history))

    def test_what_is_given_is_copied(self):
        history = History(random.Random(233), 4)
        layers = history.layers()
        store = Store(layers)
        layers[1].rows = ()
        layers.pop()
        self.assertEqual(store, store_of(history))

    def test_baked(self):
        dice = random.Random(234)
        for _ in range(80):
            history = History(dice, dice.randint(1, 8))
            store, pins = store_of(history), [dice.randint(0, 9) for _ in range(dice.randint(0, 3))]
            first, many = some_bake(dice, store)
            baked = store.baked(first, many, dice.choice([list, tuple])(pins))
            self.assertEqual(len(baked), len(store) - many + 1)
            self.assertEqual(baked.layers[:first], store.layers[:first])
            self.assertEqual(baked.layers[first + 1:], store.layers[first + many:])
            is_bottom = first + many == len(store)
            self.assertEqual(baked.layers[first], bake(store.layers[first:first + many], pins, is_bottom=is_bottom))
            self.assertEqual(store, store_of(history))
            self.assertEqual(store.baked(first, many), store.baked(first, many, []))

    def test_reads_against_sheets(self):
        dice = random.Random(235)
        for _ in range(25):
            history = History(dice, dice.randint(1, 7))
            store, days = store_of(history), len(history.sheets)
            for key in range(LAST + 2):
                self.assertEqual(store.versions(key), history.versions(key))
                for day in range(days + 1):
                    self.assertEqual(store.read(key, day), history.read(key, day))
                self.assertEqual(store.read(key), history.read(key, days))
                self.assertEqual(store.read(key, None), history.read(key, days))

    def test_reads_stay_on_pinned_days_and_the_last_one(self):
        dice = random.Random(236)
        for _ in range(60):
            history = History(dice, dice.randint(2, 9))
            store, days = store_of(history), len(history.sheets)
            pins = [dice.randint(0, days) for _ in range(dice.randint(0, 3))]
            for _ in range(dice.randint(1, 4)):
                store = store.baked(*some_bake(dice, store), pins)
                for day in [*pins, days]:
                    self.assertEqual([store.read(key, day) for key in range(LAST + 1)],
                                     [history.read(key, day) for key in range(LAST + 1)])
                    pairs = [(key, history.read(key, day)) for key in range(LAST + 1)]
                    self.assertEqual(list(store.walk(day=day)), [pair for pair in pairs if pair[1] is not None])

    def test_opened(self):
        dice = random.Random(237)
        for _ in range(60):
            history = History(dice, dice.randint(1, 8))
            store = store_of(history)
            for _ in range(dice.randint(0, 2)):
                store = store.baked(*some_bake(dice, store), [dice.randint(0, 8)])
            for key in range(LAST + 1):
                for day in range(store.today() + 1):
                    wanted = []
                    for place, layer in enumerate(store.layers):
                        told = [row for row in layer.rows if row[0] <= key <= row[1]]
                        if layer.first <= day and layer.rows and layer.rows[0][0] <= key <= layer.rows[-1][1]:
                            wanted.append(place)
                            if told and any(version[0] <= day for version in told[0][2]):
                                break
                    self.assertEqual(store.opened(key, day), wanted)
                self.assertEqual(store.opened(key), store.opened(key, store.today()))

    def test_opened_between(self):
        store = Store().behind(Sheet({5: "a"})).behind(Sheet({3: "b", 9: "c"})).behind(Sheet({5: "d"})).behind(Sheet({}))
        self.assertEqual([store.opened(5), store.opened(5, 3), store.opened(5, 2), store.opened(5, 1), store.opened(5, 0)],
                         [[1], [1], [2, 3], [3], []])
        self.assertEqual([store.opened(4), store.opened(9), store.opened(10)], [[2], [2], []])
        # A layer with versions of later days alone is looked at, too.
        baked = store.baked(1, 2)
        self.assertEqual([baked.opened(5, 2), baked.opened(5, 3), baked.opened(4, 2)], [[1, 2], [1], [1]])
        self.assertEqual(baked.read(5, 2), "a")

    def test_walks_next_and_last_keys(self):
        dice = random.Random(238)
        for _ in range(25):
            history = History(dice, dice.randint(1, 6))
            store = store_of(history)
            if dice.random() < 0.5:
                store = store.baked(*some_bake(dice, store), list(range(9)))
            for day in [None, *range(store.today() + 1)]:
                pairs = [(key, store.read(key, day)) for key in range(LAST + 1)]
                pairs = [pair for pair in pairs if pair[1] is not None]
                self.assertEqual(list(store.walk(day=day)), pairs)
                for _ in range(6):
                    low, high = dice.randint(0, LAST + 2), dice.randint(0, LAST + 2)
                    self.assertEqual(list(store.walk(low, high, day)), [pair for pair in pairs if low <= pair[0] <= high])
                for key in range(LAST + 2):
                    later, ahead = [k for k, _ in pairs if k >= key], [k for k, _ in pairs if k <= key]
                    self.assertEqual(store.next_key(key, day), later[0] if later else None)
                    self.assertEqual(store.last_key(key, day), ahead[-1] if ahead else None)

    def test_both_ends_of_all_keys(self):
        store = Store().behind(Sheet({0: "a", LAST_KEY: "b"})).behind(Sheet({}, [0]))
        self.assertEqual(list(store.walk()), [(LAST_KEY, "b")])
        self.assertEqual(list(store.walk(day=1)), [(0, "a"), (LAST_KEY, "b")])
        self.assertEqual(list(store.walk(0, LAST_KEY - 1, 1)), [(0, "a")])
        self.assertEqual(list(store.walk(LAST_KEY, LAST_KEY)), [(LAST_KEY, "b")])
        self.assertEqual([list(store.walk(5, 4)), list(store.walk(LAST_KEY, 0)), list(store.walk(0, 0))], [[]] * 3)
        self.assertEqual([store.next_key(0), store.next_key(0, 1), store.next_key(LAST_KEY), store.last_key(LAST_KEY),
                          store.last_key(0), store.last_key(0, 1), store.last_key(LAST_KEY - 1, 1)],
                         [LAST_KEY, 0, LAST_KEY, LAST_KEY, None, 0, 0])
        self.assertEqual([store.read(0, 0), store.next_key(0, 0), store.last_key(LAST_KEY, 0)], [None] * 3)

    def test_walk_is_a_generator(self):
        walk = Store().behind(Sheet({1: "a", 2: "b"})).walk()
        self.assertIsInstance(walk, types.GeneratorType)
        self.assertEqual([next(walk), next(walk), next(walk, None)], [(1, "a"), (2, "b"), None])

    def test_lists_are_new(self):
        store = Store().behind(Sheet({1: "a"}))
        store.versions(1).clear()
        store.opened(1).clear()
        self.assertEqual((store.versions(1), store.opened(1)), ([(1, "a")], [0]))


class SameTest(unittest.TestCase):
    def reads(self, store, days):
        return [[store.read(key, day) for key in range(LAST + 3)] for day in days]

    def test_drawn_stores(self):
        dice = random.Random(241)
        same, unlike = 0, 0
        for _ in range(150):
            history = History(dice, dice.randint(1, 6))
            one, pins = store_of(history), [dice.randint(0, 6) for _ in range(dice.randint(0, 2))]
            other = one
            for _ in range(dice.randint(1, 3)):
                other = other.baked(*some_bake(dice, other), pins)
            if dice.random() < 0.3:
                other = other.behind(Sheet({dice.randint(0, LAST): "new"}))
            days = [dice.randint(0, one.today()) for _ in range(dice.randint(0, 3))]
            days = dice.choice([list, tuple])(days)
            found = judge_same(one, other, days)
            self.assertEqual(bool(found), self.reads(one, days) == self.reads(other, days))
            self.assertTrue(found.shows(one, other, days))
            if found:
                same += 1
                self.assertEqual(found.tried, sorted(set(found.tried)))
            else:
                unlike += 1
                self.assertIn(found.day, days)
                self.assertNotEqual(one.read(found.key, found.day), other.read(found.key, found.day))
        self.assertTrue(same > 20 and unlike > 20)

    def test_unlike_on_some_days_alone(self):
        one = Store().behind(Sheet({5: "a"})).behind(Sheet({5: "b"})).behind(Sheet({5: "c", 6: "d"}))
        other = one.baked(0, 2)
        for days, answer in [([], True), ([0], True), ([1], True), ([3], True), ((0, 1, 3), True), ([2], False),
                             ([3, 2, 1], False), ((0, 2), False)]:
            found = judge_same(one, other, days)
            self.assertEqual(bool(found), answer)
            self.assertEqual(type(found), SameStores if answer else UnlikeStores)
            self.assertTrue(found.shows(one, other, days))
            if not answer:
                self.assertEqual((found.day, found.key), (2, 5))
        self.assertFalse(judge_same(one, other, [2]).shows(one, other, [3]))
        self.assertFalse(judge_same(one, other, [3]).shows(one, other, [2]))

    def test_value_and_gone(self):
        one = Store().behind(Sheet({5: "a"})).behind(Sheet({}, [5]))
        for other in (Store().behind(Sheet({})).behind(Sheet({})), Store().behind(Sheet({}, [], [(0, 9)])).behind(
                Sheet({})), one.baked(0, 2)):
            self.assertEqual([bool(judge_same(one, other, [day])) for day in (0, 1, 2)], [True, False, True])
            self.assertEqual(bool(judge_same(other, one, [1])), False)

    def test_tried(self):
        for sheets, tried in [([], [0]), ([Sheet({})], [0]), ([Sheet({0: "a"})], [0, 1]),
                              ([Sheet({LAST_KEY: "a"})], [0, LAST_KEY]), ([Sheet({}, [], [(5, LAST_KEY)])], [0, 5]),
                              ([Sheet({3: "a"}, [4], [(8, 9)])], [0, 3, 4, 5, 8, 10]),
                              ([Sheet({3: "a"}), Sheet({}, [], [(2, 3)])], [0, 2, 3, 4])]:
            store = Store()
            for sheet in sheets:
                store = store.behind(sheet)
            found = judge_same(store, store, [0])
            self.assertTrue(found.shows(store, store, [0]))
            wanted = SameStores(tried)
            self.assertTrue(wanted.shows(store, store, [0, store.today()]))
            for place in range(len(tried)):
                fewer = SameStores(tried[:place] + tried[place + 1:])
                self.assertFalse(fewer.shows(store, store, [0]))
            if len(tried) > 1:
                self.assertFalse(SameStores(tried[::-1]).shows(store, store, [0]))
            self.assertFalse(SameStores([*tried, tried[-1]]).shows(store, store, [0]))
            self.assertFalse(SameStores([]).shows(store, store, [0]))
            # Further keys may be tried, and also what is no key.
            for more in ([-5], [LAST_KEY + 1], [10 ** 30, -1], [7, 77]):
                self.assertTrue(SameStores(sorted(set(tried + more))).shows(store, store, [0]))

    def test_keys_of_both_stores_are_tried(self):
        one, other = Store().behind(Sheet({3: "a"}, [7])), Store().behind(Sheet({3: "a"}, [5]))
        self.assertTrue(SameStores([0, 3, 4, 5, 6, 7, 8]).shows(one, other, [1]))
        for fewer in ([0, 3, 4, 5, 6], [0, 3, 4, 7, 8], [3, 4, 5, 6, 7, 8]):
            self.assertFalse(SameStores(fewer).shows(one, other, [1]))

    def test_same_is_not_shown_where_they_read_unlike(self):
        one, other = Store().behind(Sheet({3: "a"})), Store().behind(Sheet({3: "b"}))
        self.assertFalse(SameStores([0, 3, 4]).shows(one, other, [1]))
        self.assertTrue(SameStores([0, 3, 4]).shows(one, other, [0]))
        self.assertFalse(SameStores([0, 3, 4]).shows(one, other, (0, 1)))

    def test_unlike_is_changed(self):
        one, other = Store().behind(Sheet({3: "a"})), Store().behind(Sheet({3: "b"}))
        found = judge_same(one, other, [0, 1])
        self.assertEqual((found.day, found.key), (1, 3))
        for day, key in [(0, 3), (2, 3), (-1, 3), (1, 4), (1, -1), (1, LAST_KEY + 1), (1, 10 ** 30), (10 ** 30, 3)]:
            self.assertFalse(UnlikeStores(day, key).shows(one, other, [0, 1]))
        found.key = 2
        self.assertFalse(found.shows(one, other, [0, 1]))
        found.key = 3
        self.assertTrue(found.shows(one, other, [0, 1]))
        self.assertFalse(found.shows(one, other, [0]))
        self.assertFalse(found.shows(one, one, [0, 1]))

    def test_evidence(self):
        tried = [0, 3]
        same = SameStores(tried)
        tried.append(4)
        self.assertEqual((same.tried, type(same.tried)), ([0, 3], list))
        self.assertEqual(SameStores((0, 3)), same)
        self.assertEqual(SameStores((0, 3)).tried, [0, 3])
        self.assertTrue(same == SameStores([0, 3]) and same != SameStores([0]) and same != UnlikeStores(0, 3))
        self.assertTrue(same != [0, 3] and same is not None and bool(same))
        unlike = UnlikeStores(1, 3)
        self.assertTrue(unlike == UnlikeStores(1, 3) and unlike != UnlikeStores(2, 3) and unlike != UnlikeStores(1, 4))
        self.assertTrue(unlike != same and unlike != (1, 3) and not bool(unlike))


class WrongInputsTest(LayersTest):
    def setUp(self):
        self.store = Store().behind(Sheet({5: "a"})).behind(Sheet({5: "b"})).behind(Sheet({6: "c"}))
        self.same = Store(self.store.layers)

    def tearDown(self):
        self.assertEqual(self.store, self.same)

    def test_no_layers(self):
        for wrong in NO_LAYERS:
            self.assert_bad_layers(None, lambda: Store(wrong))
        three, two, one = self.store.layers
        for layers, place in [([None], 0), ([three, None], 1), ([three, one], 1), ([two, three], 1), ([three, two], 1),
                              ([two], 0), ([three], 0), ((three, two, one, one), 3), ([three, two, 1], 2),
                              ([bake([three, two])], 0), ([bake([three, two]), two, one], 1)]:
            self.assert_bad_layers(place, lambda: Store(layers))

    def test_no_sheet(self):
        for wrong in NO_SHEETS + [self.store, self.store.layers[0]]:
            self.assertRaises(BadSheet, self.store.behind, wrong)

    def test_not_so_many_layers(self):
        for first, many in [(0, 0), (0, 4), (1, 3), (3, 1), (2, 2), (-1, 1), (-3, 3), (10 ** 30, 1), (0, 10 ** 30), (3, 0)]:
            self.assert_bad_layers(None, lambda: self.store.baked(first, many))
            self.assert_bad_layers(None, lambda: self.store.baked(first, many, None))
        for wrong in NO_PIN:
            self.assert_bad_layers(None, lambda: self.store.baked(wrong, 1, [None]))
            self.assert_bad_layers(None, lambda: self.store.baked(0, wrong))
        for wrong in NO_PINS + [[wrong] for wrong in NO_PIN]:
            self.assertRaises(BadDay, self.store.baked, 0, 2, wrong)

    def test_no_key_and_no_day(self):
        for call in (self.store.read, self.store.opened, self.store.next_key, self.store.last_key):
            for wrong in NO_KEYS:
                self.assertRaises(BadKey, call, wrong)
                self.assertRaises(BadKey, call, wrong, 4)
            for wrong in NO_ASKED + [4, 10 ** 30]:
                with self.assertRaises(BadDay) as caught:
                    call(5, wrong)
                self.assertNotIsInstance(caught.exception, errors.BadDay)
        for wrong in NO_KEYS:
            self.assertRaises(BadKey, self.store.versions, wrong)

    def test_walk_is_refused_when_the_first_pair_is_asked_for(self):
        for args, kind in ([((wrong, None, -1), BadKey) for wrong in NO_KEYS]
                           + [((0, wrong, -1), BadKey) for wrong in NO_KEYS]
                           + [((9, 0, wrong), BadDay) for wrong in NO_ASKED + [4, 10 ** 30]]):
            walk = self.store.walk(*args)
            self.assertRaises(kind, next, walk)

    def test_judge_same(self):
        same, unlike = SameStores([0, 5, 6, 7]), UnlikeStores(1, 5)
        for wrong in NO_LAYERS + [self.store.layers, self.store.layers[0], Store]:
            for call in (judge_same, same.shows, unlike.shows):
                self.assert_bad_layers(None, lambda: call(wrong, self.store, [9]))
                self.assert_bad_layers(None, lambda: call(self.store, wrong, None))
        fewer = Store(self.store.layers[1:])
        for call in (judge_same, same.shows, unlike.shows):
            for wrong in NO_PINS + [[wrong] for wrong in NO_ASKED + [None, 4, 10 ** 30]] + [(1, 4)]:
                self.assertRaises(BadDay, call, self.store, self.store, wrong)
            self.assertRaises(BadDay, call, self.store, fewer, [1, 3])
            self.assertRaises(BadDay, call, fewer, self.store, (3,))
        self.assertTrue(judge_same(fewer, self.store, [2]))


if __name__ == "__main__":
    unittest.main()
