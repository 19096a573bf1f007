"""The examples of all sections of the interface, answered just as they stand there."""

import doctest
import unittest

EXAMPLES = r"""
rules.py

>>> from siltstore.rules import Rule
>>> rule = Rule([(3, 2), (4, 4)], [(4, 4), (4, 4)])
>>> [rule.front, rule.period, rule[5], rule.size(2), rule.owed(2)]
[((3, 2),), ((4, 4),), (4, 4), 8, 1]

days.py

>>> from siltstore.days import baked, day_of, digits, layers, made, next_baked
>>> from siltstore.rules import Rule
>>> rule = Rule([], [(3, 2)])
>>> [digits(rule, 9), day_of(rule, [1, 2, 1]), layers(rule, 9), made(rule, 1, 9), baked(rule, 7), next_baked(rule, 1, 7)]
[[1, 2, 1], 9, [(1, 4, 2), (5, 6, 1), (7, 8, 1), (9, 9, 0)], 4, [0, 1], 11]

places.py

>>> from siltstore.places import day_in, hardest, place, stay, together, work, work_on
>>> from siltstore.rules import Rule
>>> rule = Rule([], [(3, 2)])
>>> [place(rule, 7, 9), day_in(rule, 3, 2), stay(rule, 3, 1), together(rule, 2, 3), work(rule, 7), work_on(rule, 7), hardest(rule, 20)]
[(1, 2), 7, (5, 6), 7, 10, 6, 15]

counts.py

>>> from siltstore.counts import count, fewest, first_with, most
>>> from siltstore.rules import Rule
>>> rule = Rule([], [(3, 2)])
>>> [count(rule, 9), first_with(rule, 5), most(rule, 100).number, most(rule, 100).day, fewest(rule, 9).number, fewest(rule, 9).day]
[4, 10, 11, 94, 4, 9]

compare.py

>>> from siltstore.compare import judge_excess
>>> from siltstore.rules import Rule
>>> from siltstore.weights import Weights
>>> lazy, quick = Rule([], [(3, 2)]), Rule([], [(2, 2)])
>>> found, first = judge_excess(quick, lazy), Weights([1], [0])
>>> [found.number, bool(judge_excess(lazy, quick)), judge_excess(lazy, quick, first, first).number]
[0, False, 2]

calendars.py

>>> from siltstore.calendars import both, day_with, days_baking, days_few, first_unlike, many_up_to, next_day, rest
>>> from siltstore.rules import Rule
>>> rule = Rule([], [(2, 2)])
>>> few, busy = days_few(rule, 1), days_baking(rule, 1)
>>> [many_up_to(few, 100), next_day(few, 64), day_with(busy, 2), first_unlike(busy, both(busy, rest(few))), few.has(12)]
[8, 128, 12, 4, False]

cheapest.py

>>> from siltstore.cheapest import cheapest, outdone
>>> from siltstore.rules import Rule
>>> choices = [Rule([], [(2, 2)]), Rule([], [(4, 4)]), Rule([], [(10, 10)])]
>>> [cheapest(choices, 9, 100).place, cheapest(choices, 9, 100).against, cheapest(choices, 2, 100), outdone(choices, 7)]
[1, {2: 19}, None, {}]

spreading.py

>>> from siltstore.rules import Rule
>>> from siltstore.spreading import judge_spread, least_budget, left_over
>>> rule = Rule([], [(2, 2)])
>>> [judge_spread(rule, 3, 100).day, least_budget(rule, 100), left_over(rule, 2, 9), judge_spread(rule, 5, 100).grades]
[32, 5, {1: 2, 2: 8}, 5]

ruletexts.py

>>> from siltstore.calendars import many_up_to
>>> from siltstore.ruletexts import read_calendar, read_rule, write_rule
>>> rule = read_rule('first at 3 bake 2 # slow\nthen at 2 bake 2\n')
>>> [write_rule(rule).split('\n')[0], many_up_to(read_calendar(rule, 'at most 2 and not baking 0'), 20)]
['first at 3 bake 2', 3]

sheets.py

>>> from siltstore.sheets import Sheet
>>> sheet = Sheet({7: "a", 12: "b"}, [9], [(3, 8), (10, 11)])
>>> [sheet.gone, len(sheet), sheet.is_gone(7), sheet == Sheet({12: "b", 7: "a"}, [], [(3, 11)])]
[((3, 6), (8, 11)), 2, False, True]

layers.py, baking.py

>>> from siltstore.baking import bake
>>> from siltstore.layers import layer_of
>>> from siltstore.sheets import Sheet
>>> layers = [layer_of(3, Sheet({}, [], [(1, 4)])), layer_of(2, Sheet({2: "b"})), layer_of(1, Sheet({2: "a"}))]
>>> [bake(layers).rows, bake(layers, [2]).versions(2), bake(layers, [1], is_bottom=True).rows]
[((1, 4, ((3, None),)),), ((3, None), (2, 'b')), ((2, 2, ((3, None), (1, 'a'))),)]

stores.py

>>> from siltstore.sheets import Sheet
>>> from siltstore.stores import Store, judge_same
>>> store = Store().behind(Sheet({5: "a", 8: "b"})).behind(Sheet({6: "c"}, [], [(7, 9)]))
>>> [store.read(8), store.read(8, 1), list(store.walk()), store.opened(5), store.last_key(9, 1)]
[None, 'b', [(5, 'a'), (6, 'c')], [1], 8]
>>> late = store.baked(0, 2)
>>> [judge_same(store, late, [2]).tried, judge_same(store, late, [1, 2]).key]
[[0, 5, 6, 7, 8, 9, 10], 8]

scripts.py

>>> from siltstore.scripts import judge_rounds, judge_script
>>> fall = ("fall",)
>>> found = judge_script([fall, fall, ("bake", (0, 1), 0, True), fall, ("bake", (1, 0), 0, True)])
>>> [found.many, found.one[1], bool(judge_script([fall, fall, ("bake", (0, 1), 0, False)]))]
[5, 'leaf', True]
>>> [bool(judge_rounds([fall, ("bake", (0, 1), 0, False)], 1)), judge_rounds([fall, fall, ("bake", (0, 1), 0, False)], 1).deeds]
[True, 3]

policies.py

>>> from siltstore.policies import judge_lean, judge_policy, kept_days
>>> [kept_days(("pinned",), [1, 4, 6, 9], [4, 8], 10), bool(judge_policy(("after",))), bool(judge_lean(("after",)))]
[[4, 6, 9], True, False]
>>> found = judge_policy(("or", ("newest", 3), ("young", 5)))
>>> [bool(found), kept_days(("or", ("newest", 3), ("young", 5)), [1, 7, 8, 9], [1], 9)]
[False, [7, 8, 9]]

drills.py, rounds.py

>>> from siltstore.drills import Drill, judge_drill, made_drill, spare_steps
>>> files = {"a": (1, 4), "b": (5, 5), "c": (1, 5)}
>>> drill = made_drill(files, ("b", "a"), 5, ("c",))
>>> [len(drill), drill.steps[0], bool(judge_drill(drill)), spare_steps(drill)]
[6, ('write', 'c'), True, []]
>>> found = judge_drill(drill.with_steps([step for step in drill.steps if step != ("sync", "list")]))
>>> [found.steps, found.line]
[4, ('b', 'a')]

drills.py, rounds.py

>>> from siltstore.rounds import judge_drills, spare_in_rounds
>>> steps = [("write", "new"), ("sync", "new"), ("line", ("new",)), ("sync", "list"), ("told",), ("drop", "old")]
>>> [bool(judge_drills(steps)), spare_in_rounds(steps), judge_drills(steps[:3] + steps[4:]).steps]
[True, [5], 4]

silttexts.py

>>> from siltstore.silttexts import read_drill, read_script, read_sheet, write_drill, write_sheet
>>> [write_sheet(read_sheet("9 gone\n3 to 8 gone # most\n7 = a")), read_script("fall\nfall\nbake 0 1 to 0 drop")[2]]
['3 to 6 gone\n7 = a\n8 to 9 gone\n', ('bake', (0, 1), 0, False)]
>>> write_drill(read_drill("file a 1 to 2\nstart a told 2\nline a a\nsync list"))
'file a 1 to 2\nstart a told 2\nline a a\nsync list\n'

keepers.py

>>> from siltstore.keepers import Keeper
>>> from siltstore.sheets import Sheet
>>> keeper = Keeper()
>>> early = keeper.fall(Sheet({1: "a"}), Sheet({1: "b"}))
>>> pinned = keeper.pin()
>>> late = keeper.fall(Sheet({1: "c"}))
>>> many = keeper.bake(0, 3)
>>> [early, pinned, late, many, keeper.read(1), keeper.read(1, 2), keeper.store.versions(1), keeper.written]
[2, 2, 3, 2, 'c', 'b', [(3, 'c'), (2, 'b')], 2]

"""


class ExamplesTest(unittest.TestCase):
    def test_examples(self):
        sections = EXAMPLES.strip().split("\n\n")
        self.assertEqual(len(sections), 2 * 18)
        for name, code in zip(sections[::2], sections[1::2]):
            examples, names = doctest.DocTestParser().get_examples(code + "\n"), {}
            self.assertTrue(examples, name)
            for example in examples:
                if example.want:
                    self.assertEqual(repr(eval(example.source, names)) + "\n", example.want, name)
                else:
                    exec(example.source, names)


if __name__ == "__main__":
    unittest.main()
