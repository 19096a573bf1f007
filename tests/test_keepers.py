"""Point [31] and the interface's section keepers.py."""

import inspect
import random
import types
import unittest

from siltstore import errors, keepers
from siltstore.keepers import Keeper
from siltstore.sheeterrors import BadDay, BadKey, BadLayers, BadSheet, NothingDone, SiltError
from siltstore.sheets import Sheet
from siltstore.stores import Store
from test_baking import NO_PIN
from test_layers import NO_SHEETS
from test_sheets import LAST as LAST_KEY, NO_KEYS, some_sheet

LAST = 30


def all_of(keeper):
    """All that a keeper tells."""
    return keeper.store, keeper.written, keeper.pinned(), keeper.today(), len(keeper)


class Book:
    """What a test keeps by itself: the sheets of all days, the pins, and what the bakes returned."""

    def __init__(self):
        self.told, self.pins, self.written, self.layers = [], [], 0, 0
        self.past = []

    def note(self):
        self.past.append((list(self.told), list(self.pins), self.written, self.layers))

    def undo(self):
        self.told, self.pins, self.written, self.layers = self.past.pop()

    def read(self, key, day):
        for told in reversed(self.told[:day]):
            if key in told:
                return told[key]
        return None


def some_deed(dice, keeper, book):
    """Do something with a keeper, and note it in a book."""
    deed = dice.choice(["fall", "fall", "pin", "unpin", "bake", "bake", "undo"])
    if deed == "undo" and book.past:
        keeper.undo()
        book.undo()
    elif deed == "fall":
        sheets, told = [], []
        for _ in range(dice.randint(0, 3)):
            leaves, marks, ranges, gone = some_sheet(dice, LAST)
            sheets.append(Sheet(leaves, marks, ranges))
            told.append({key: leaves.get(key) for key in range(LAST + 1) if key in leaves or gone[key]})
        book.note()
        book.told, book.layers = book.told + told, book.layers + len(told)
        assert keeper.fall(*sheets) == len(book.told)
    elif deed == "pin" and len(book.pins) < 16:
        book.note()
        book.pins = book.pins + [len(book.told)]
        assert keeper.pin() == len(book.told)
    elif deed == "unpin" and book.pins:
        book.note()
        day = dice.choice(book.pins)
        book.pins = list(book.pins)
        book.pins.remove(day)
        assert keeper.unpin(day) is None
    elif deed == "bake" and book.layers:
        first = dice.randint(0, book.layers - 1)
        many = dice.randint(1, book.layers - first)
        book.note()
        found = keeper.bake(first, many)
        assert found == sum(len(versions) for _, _, versions in keeper.store.layers[first].rows)
        book.written, book.layers = book.written + found, book.layers + 1 - many


class KeeperTest(unittest.TestCase):
    def test_names(self):
        self.assertEqual(Keeper.__module__, "siltstore.keepers")
        told = {"fall": "(self, *sheets)", "pin": "(self)", "unpin": "(self, day)", "bake": "(self, first, many)",
                "today": "(self)", "pinned": "(self)", "read": "(self, key, day=None)",
                "walk": "(self, low, high, day=None)", "undo": "(self)", "attempt": "(self, deed)"}
        for name, signature in told.items():
            self.assertIn(name, vars(Keeper))
            self.assertEqual(str(inspect.signature(getattr(Keeper, name))), signature)
        self.assertIn("__len__", vars(Keeper))
        self.assertEqual((keepers.Keeper.MOST, Keeper().MOST), (16, 16))

    def test_example(self):
        keeper = Keeper()
        early = keeper.fall(Sheet({1: "a"}), Sheet({1: "b"}))
        pinned = keeper.pin()
        late = keeper.fall(Sheet({1: "c"}))
        many = keeper.bake(0, 3)
        told = [early, pinned, late, many, keeper.read(1), keeper.read(1, 2), keeper.store.versions(1), keeper.written]
        self.assertEqual(told, [2, 2, 3, 2, "c", "b", [(3, "c"), (2, "b")], 2])

    def test_at_first(self):
        keeper = Keeper()
        self.assertEqual(all_of(keeper), (Store(), 0, [], 0, 0))
        self.assertEqual([keeper.read(5), keeper.read(5, None), keeper.read(5, 0), list(keeper.walk(0, LAST_KEY))],
                         [None, None, None, []])
        self.assertEqual(keeper.pin(), 0)
        keeper.fall(Sheet({5: "a"}))
        self.assertEqual([keeper.read(5, 0), keeper.read(5, 1), keeper.pinned()], [None, "a", [0]])

    def test_drawn_deeds(self):
        dice = random.Random(311)
        for _ in range(40):
            keeper, book = Keeper(), Book()
            for _ in range(dice.randint(5, 40)):
                some_deed(dice, keeper, book)
                self.hold(keeper, book)

    def hold(self, keeper, book):
        self.assertEqual((keeper.today(), len(keeper), keeper.pinned(), keeper.written),
                         (len(book.told), book.layers, sorted(book.pins), book.written))
        self.assertEqual((keeper.store.today(), len(keeper.store)), (keeper.today(), len(keeper)))
        for day in [None, *sorted(set(book.pins)), len(book.told)]:
            last = len(book.told) if day is None else day
            wanted = [book.read(key, last) for key in range(LAST + 1)]
            self.assertEqual([keeper.read(key, day) for key in range(LAST + 1)], wanted)
            pairs = [(key, value) for key, value in enumerate(wanted) if value is not None]
            self.assertEqual(list(keeper.walk(0, LAST_KEY, day)), pairs)
            self.assertEqual(list(keeper.walk(7, 20, day)), [pair for pair in pairs if 7 <= pair[0] <= 20])
        for day in range(-1, len(book.told) + 2):
            if day not in book.pins and day != len(book.told):
                self.assertRaises(BadDay, keeper.read, 5, day)

    def test_undone_one_by_one(self):
        dice = random.Random(312)
        for _ in range(25):
            keeper, states = Keeper(), []
            for _ in range(dice.randint(0, 25)):
                states.append(all_of(keeper))
                book = Book()
                book.past, book.pins, book.layers = [], keeper.pinned(), len(keeper)
                book.told = [{}] * keeper.today()
                some_deed(dice, keeper, book)
                if not book.past:
                    states.pop()
            while states:
                self.assertIsNone(keeper.undo())
                self.assertEqual(all_of(keeper), states.pop())
            self.assertRaises(NothingDone, keeper.undo)
            self.assertEqual(all_of(keeper), all_of(Keeper()))

    def test_undo_of_each_kind_of_deed(self):
        keeper = Keeper()
        self.assertRaises(NothingDone, keeper.undo)
        keeper.fall(Sheet({1: "a"}), Sheet({1: "b"}))
        keeper.pin()
        keeper.fall()
        keeper.unpin(2)
        keeper.bake(0, 2)
        self.assertEqual((len(keeper), keeper.written, keeper.pinned()), (1, 1, []))
        keeper.undo()
        self.assertEqual((len(keeper), keeper.written, keeper.pinned()), (2, 0, []))
        keeper.undo()
        self.assertEqual((len(keeper), keeper.pinned()), (2, [2]))
        keeper.undo()
        self.assertEqual((len(keeper), keeper.pinned(), keeper.today()), (2, [2], 2))
        keeper.undo()
        self.assertEqual((len(keeper), keeper.pinned()), (2, []))
        keeper.undo()
        self.assertEqual((len(keeper), keeper.today(), keeper.store), (0, 0, Store()))
        self.assertRaises(NothingDone, keeper.undo)
        self.assertEqual(keeper.fall(Sheet({1: "c"})), 1)
        self.assertEqual(keeper.store, Store().behind(Sheet({1: "c"})))

    def test_fall_without_sheets(self):
        keeper = Keeper()
        self.assertEqual([keeper.fall(), keeper.fall(Sheet({})), keeper.fall()], [0, 1, 1])
        keeper.undo()
        self.assertEqual(keeper.today(), 1)
        keeper.undo()
        self.assertEqual(keeper.today(), 0)
        keeper.undo()
        self.assertRaises(NothingDone, keeper.undo)

    def test_16_pins(self):
        keeper = Keeper()
        for many in range(16):
            self.assertEqual(keeper.pin(), many // 3)
            if many % 3 == 2:
                keeper.fall(Sheet({many: "a"}))
        pins = [many // 3 for many in range(16)]
        self.assertEqual(keeper.pinned(), pins)
        self.assertRaises(BadDay, keeper.pin)
        self.assertEqual(keeper.pinned(), pins)
        keeper.unpin(2)
        pins.remove(2)
        self.assertEqual((keeper.pinned(), keeper.read(5, 2)), (pins, "a"))
        self.assertEqual(keeper.pin(), 5)
        self.assertRaises(BadDay, keeper.pin)
        keeper.undo()
        keeper.undo()
        self.assertEqual(len(keeper.pinned()), 16)
        self.assertRaises(BadDay, keeper.pin)

    def test_a_day_that_is_pinned_twice(self):
        keeper = Keeper()
        keeper.fall(Sheet({1: "a"}))
        self.assertEqual([keeper.pin(), keeper.pin(), keeper.pinned()], [1, 1, [1, 1]])
        keeper.fall(Sheet({1: "b"}))
        self.assertIsNone(keeper.unpin(1))
        self.assertEqual((keeper.pinned(), keeper.read(1, 1)), ([1], "a"))
        self.assertEqual(keeper.bake(0, 2), 2)
        keeper.unpin(1)
        self.assertEqual(keeper.pinned(), [])
        self.assertRaises(BadDay, keeper.unpin, 1)
        self.assertRaises(BadDay, keeper.read, 1, 1)
        self.assertEqual(keeper.bake(0, 1), 1)
        self.assertEqual(keeper.written, 3)

    def test_bakes(self):
        keeper = Keeper()
        keeper.fall(Sheet({1: "a", 2: "a"}, [], [(10, 20)]), Sheet({1: "b"}, [3], [(12, 30)]))
        keeper.pin()
        keeper.fall(Sheet({1: "c"}))
        self.assertEqual(keeper.bake(0, 2), 4)
        self.assertEqual(keeper.store.layers[0].rows, ((1, 1, ((3, "c"), (2, "b"))), (3, 3, ((2, None),)),
                                                       (12, 30, ((2, None),))))
        self.assertEqual(keeper.bake(0, 2), 3)
        self.assertEqual(keeper.store.layers[0].rows, ((1, 1, ((3, "c"), (2, "b"))), (2, 2, ((1, "a"),))))
        self.assertEqual(keeper.written, 7)
        keeper.undo()
        self.assertEqual((keeper.written, len(keeper)), (4, 2))
        empty = Keeper()
        empty.fall(Sheet({}, [1]))
        self.assertEqual((empty.bake(0, 1), empty.written), (0, 0))

    def test_walk_is_a_generator(self):
        keeper = Keeper()
        keeper.fall(Sheet({1: "a", 2: "b", 9: "c"}))
        walk = keeper.walk(0, 5)
        self.assertIsInstance(walk, types.GeneratorType)
        self.assertEqual([next(walk), next(walk), next(walk, None)], [(1, "a"), (2, "b"), None])
        self.assertEqual([list(keeper.walk(5, 2)), list(keeper.walk(9, 9, 1)), list(keeper.walk(low=0, high=1, day=None))],
                         [[], [(9, "c")], [(1, "a")]])

    def test_lists_are_new(self):
        keeper = Keeper()
        keeper.pin()
        keeper.pinned().clear()
        self.assertEqual(keeper.pinned(), [0])
        self.assertEqual(Keeper().pinned(), [])


class AttemptTest(unittest.TestCase):
    def some_keeper(self):
        keeper = Keeper()
        keeper.fall(Sheet({1: "a"}), Sheet({1: "b"}))
        keeper.pin()
        keeper.fall(Sheet({1: "c"}))
        keeper.bake(0, 2)
        return keeper

    def test_what_it_returns(self):
        keeper = self.some_keeper()
        answer = [1]
        self.assertIs(keeper.attempt(lambda given: answer), answer)
        self.assertIsNone(keeper.attempt(lambda given: None))
        self.assertIs(keeper.attempt(lambda given: given), keeper)
        self.assertEqual(keeper.attempt(Keeper.today), 3)
        self.assertEqual(keeper.attempt(lambda given: given.fall(Sheet({5: "x"}))), 4)
        self.assertEqual((keeper.today(), keeper.read(5)), (4, "x"))
        keeper.undo()
        self.assertEqual(all_of(keeper), all_of(self.some_keeper()))

    def test_an_error_ends_it(self):
        class Odd(BaseException):
            pass

        def spoil(error):
            def deed(keeper):
                keeper.fall(Sheet({7: "x"}))
                keeper.pin()
                keeper.unpin(2)
                keeper.bake(0, len(keeper))
                raise error
            return deed

        for error in (ValueError("no"), SiltError("no"), BadDay("no"), KeyError(1), StopIteration(), Odd(), SystemExit(),
                      KeyboardInterrupt(), GeneratorExit(), ZeroDivisionError(), AssertionError(), RecursionError()):
            keeper = self.some_keeper()
            with self.assertRaises(type(error)) as caught:
                keeper.attempt(spoil(error))
            self.assertIs(caught.exception, error)
            self.assertEqual(all_of(keeper), all_of(self.some_keeper()))
            # What could be undone can be undone as before.
            for _ in range(4):
                keeper.undo()
            self.assertRaises(NothingDone, keeper.undo)

    def test_what_was_undone_comes_back(self):
        def deed(keeper):
            for _ in range(4):
                keeper.undo()
            keeper.fall(Sheet({9: "z"}))
            keeper.undo()
            keeper.undo()

        keeper = self.some_keeper()
        self.assertRaises(NothingDone, keeper.attempt, deed)
        self.assertEqual(all_of(keeper), all_of(self.some_keeper()))
        days = []
        for _ in range(4):
            keeper.undo()
            days.append(keeper.today())
        self.assertEqual(days, [3, 2, 2, 0])
        self.assertEqual(all_of(keeper), all_of(Keeper()))

    def test_attempts_within_attempts(self):
        def fails(keeper):
            keeper.pin()
            raise KeyError("inner")

        def outer(keeper):
            keeper.fall(Sheet({5: "x"}))
            try:
                keeper.attempt(fails)
            except KeyError:
                pass
            return keeper.today(), keeper.pinned()

        keeper = self.some_keeper()
        self.assertEqual(keeper.attempt(outer), (4, [2]))
        self.assertEqual((keeper.today(), keeper.pinned()), (4, [2]))
        same = all_of(keeper)

        def outermost(keeper):
            keeper.attempt(lambda given: given.attempt(outer))
            keeper.undo()
            return keeper.attempt(fails)

        self.assertRaises(KeyError, keeper.attempt, outermost)
        self.assertEqual(all_of(keeper), same)
        keeper.undo()
        self.assertEqual(all_of(keeper), all_of(self.some_keeper()))

    def test_errors_of_the_keeper_itself(self):
        def deed(keeper):
            keeper.fall(Sheet({5: "x"}))
            return keeper.read(1, 1)

        keeper = self.some_keeper()
        self.assertRaises(BadDay, keeper.attempt, deed)
        self.assertEqual(keeper.today(), 3)
        self.assertRaises(TypeError, keeper.attempt, None)
        self.assertEqual(all_of(keeper), all_of(self.some_keeper()))


class WrongInputsTest(unittest.TestCase):
    def setUp(self):
        self.keeper = Keeper()
        self.keeper.fall(Sheet({1: "a"}), Sheet({1: "b"}))
        self.keeper.pin()
        self.keeper.fall(Sheet({1: "c"}), Sheet({}))
        self.same = all_of(self.keeper)

    def tearDown(self):
        self.assertEqual(all_of(self.keeper), self.same)
        for _ in range(3):
            self.keeper.undo()
        self.assertRaises(NothingDone, self.keeper.undo)

    def test_all_or_none_fall(self):
        for wrong in NO_SHEETS + [[Sheet({})]]:
            self.assertRaises(BadSheet, self.keeper.fall, wrong)
            self.assertRaises(BadSheet, self.keeper.fall, Sheet({}), wrong)
            self.assertRaises(BadSheet, self.keeper.fall, Sheet({}), wrong, Sheet({}))

    def test_not_a_pinned_day(self):
        for wrong in NO_PIN + [0, 1, 3, 4, 10 ** 30]:
            with self.assertRaises(BadDay) as caught:
                self.keeper.unpin(wrong)
            self.assertNotIsInstance(caught.exception, errors.BadDay)

    def test_true_is_no_pinned_day(self):
        keeper = Keeper()
        keeper.pin()
        keeper.fall(Sheet({1: "a"}))
        # The last day is told by an integer, too, but not by a Boolean.
        self.assertEqual(keeper.read(1, 1), "a")
        self.assertRaises(BadDay, keeper.read, 1, True)
        keeper.pin()
        keeper.fall(Sheet({}))
        for wrong in (True, False, 1.0):
            self.assertRaises(BadDay, keeper.unpin, wrong)
            self.assertRaises(BadDay, keeper.read, 1, wrong)
            self.assertRaises(BadDay, next, keeper.walk(0, 1, wrong))
        self.assertEqual(keeper.pinned(), [0, 1])

    def test_no_layers(self):
        for first, many in [(0, 0), (0, 5), (4, 1), (3, 2), (-1, 1), (True, 1), (0, True), (None, 1), (0, None), ("0", 1)]:
            with self.assertRaises(BadLayers) as caught:
                self.keeper.bake(first, many)
            self.assertIsNone(caught.exception.place)
        self.assertRaises(BadLayers, Keeper().bake, 0, 1)

    def test_reads(self):
        for wrong in NO_KEYS:
            self.assertRaises(BadKey, self.keeper.read, wrong)
            self.assertRaises(BadKey, self.keeper.read, wrong, 1)
        for wrong in [wrong for wrong in NO_PIN if wrong is not None] + [0, 1, 3, 5, 10 ** 30]:
            self.assertRaises(BadDay, self.keeper.read, 1, wrong)
        self.assertEqual([self.keeper.read(1, day) for day in (None, 2, 4)], ["c", "b", "c"])

    def test_walk_is_refused_when_the_first_pair_is_asked_for(self):
        for wrong in [wrong for wrong in NO_PIN if wrong is not None] + [0, 1, 3, 5]:
            for low, high in ((0, 5), (-1, 5), (0, None)):
                walk = self.keeper.walk(low, high, wrong)
                self.assertRaises(BadDay, next, walk)
        for wrong in NO_KEYS:
            for walk in (self.keeper.walk(wrong, 5, 2), self.keeper.walk(5, wrong), self.keeper.walk(wrong, wrong, 4)):
                self.assertRaises(BadKey, next, walk)


if __name__ == "__main__":
    unittest.main()
