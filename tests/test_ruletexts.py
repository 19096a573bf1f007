"""Points [12] and [13] and the interface's section ruletexts.py."""

import random
import unittest

from playing import NO_RULES, PLAIN_RULES, some_rules
from siltstore import ruletexts
from siltstore.calendars import (Calendar, both, days_baking, days_deep, days_few, days_from, days_with, either,
                                 every_day, first_day, first_unlike, many_up_to, rest, without)
from siltstore.errors import BadRule, BadText, SiltError
from siltstore.rules import Rule
from siltstore.ruletexts import read_calendar, read_rule, write_rule
from siltstore.sheeterrors import BadText as OtherBadText

TWO, LAZY = Rule([], [(2, 2)]), Rule([(3, 2)], [(4, 4)])
NO_TEXTS = [None, 3, True, b"then at 2 bake 2", ["then at 2 bake 2"], ("always",), 1.0, {}, TWO]


class TextTest(unittest.TestCase):
    def assert_bad(self, call, *place):
        with self.assertRaises(BadText) as caught:
            call()
        self.assertEqual((caught.exception.line, caught.exception.column), place)
        self.assertNotIsInstance(caught.exception, OtherBadText)

    def assert_bad_rule(self, text, *place):
        self.assert_bad(lambda: read_rule(text), *place)

    def assert_bad_calendar(self, text, column, rule=TWO):
        self.assert_bad(lambda: read_calendar(rule, text), 1, column)


class RuleTextsTest(TextTest):
    def test_names(self):
        for name in ("read_rule", "write_rule", "read_calendar"):
            self.assertEqual(getattr(ruletexts, name).__module__, "siltstore.ruletexts")
        self.assertEqual(read_rule(text="then at 2 bake 2"), TWO)
        self.assertEqual(write_rule(rule=TWO), "then at 2 bake 2\n")
        self.assertTrue(read_calendar(rule=TWO, text="always").has(0))

    def test_example(self):
        rule = read_rule("first at 3 bake 2 # slow\nthen at 2 bake 2\n")
        told = [write_rule(rule).split("\n")[0], many_up_to(read_calendar(rule, "at most 2 and not baking 0"), 20)]
        self.assertEqual(told, ["first at 3 bake 2", 3])

    def test_written_and_read_again(self):
        for rule in PLAIN_RULES + some_rules(121, 60):
            text = write_rule(rule)
            self.assertEqual(read_rule(text), rule)
            lines = [f"first at {pair[0]} bake {pair[1]}" for pair in rule.front]
            lines += [f"then at {pair[0]} bake {pair[1]}" for pair in rule.period]
            self.assertEqual(text, "\n".join(lines) + "\n")

    def test_told_otherwise(self):
        for text in ["first at 3 bake 2\nthen at 4 bake 4\n", "first at 3 bake 2\nthen at 4 bake 4",
                     "first at3bake 2\nthen at4bake4", "first    at 3  bake2   \n   then at 4 bake 4   ",
                     "\n\nfirst at 3 bake 2\n   \n# then at 2 bake 2\nthen at 4 bake 4\n\n",
                     "first at 3 bake 2# slow\nthen at 4 bake 4#",
                     "first at 3 bake 2 # a remark # another one, First 007\nthen at 4 bake 4\n  # end",
                     "first at 3 bake 2\nthen at 4 bake 4\nthen at 4 bake 4\n"]:
            self.assertEqual(read_rule(text), LAZY)

    def test_all_pairs(self):
        for most in range(2, 13):
            for many in range(2, most + 1):
                self.assertEqual(read_rule(f"then at {most} bake {many}"), Rule([], [(most, many)]))
            self.assert_bad_rule(f"then at {most} bake {most + 1}", 1, 15 + len(str(most)))
            self.assert_bad_rule(f"then at {most} bake 1", 1, 15 + len(str(most)))
            self.assert_bad_rule(f"then at {most} bake 0", 1, 15 + len(str(most)))

    def test_six_of_each(self):
        front = [(3, 2), (4, 3), (5, 4), (6, 5), (7, 6), (8, 7)]
        period = [(2, 2), (3, 3), (4, 4), (5, 5), (6, 6), (7, 7)]
        rule = Rule(front, period)
        text = write_rule(rule)
        self.assertEqual(len(text.split("\n")), 13)
        self.assertEqual(read_rule(text), rule)
        lines = text.split("\n")
        self.assert_bad_rule("\n".join(lines[:6] + [" first at 2 bake 2"] + lines[6:]), 7, 2)
        self.assert_bad_rule(text + "\n  then at 2 bake 2", 14, 3)
        self.assert_bad_rule(text + "then", 13, 1)
        self.assert_bad_rule(text + "first", 13, 1)
        self.assert_bad_rule("then at 2 bake 2\n" * 7, 7, 1)
        self.assertEqual(read_rule("then at 2 bake 2\n" * 6), TWO)
        self.assertEqual(read_rule("first at 2 bake 2\n" * 6 + "then at 2 bake 2"), TWO)

    def test_no_period(self):
        for text, line in [("", 2), ("\n", 3), ("first at 3 bake 2", 2), ("first at 3 bake 2\n", 3), ("# then", 2),
                           ("first at 3 bake 2\n\n# then at 2 bake 2\n", 5), ("    ", 2), ("\n" * 9, 11),
                           ("first at 2 bake 2\n" * 6, 8)]:
            self.assert_bad_rule(text, line, 1)

    def test_what_does_not_fit(self):
        for text, line, column in [
                ("then at 2 bake 2\nfirst at 3 bake 2", 2, 1), ("next at 2 bake 2", 1, 1), ("  Then at 2 bake 2", 1, 3),
                ("thenat 2 bake 2", 1, 1), ("then 2 bake 2", 1, 6), ("then at two bake 2", 1, 9),
                ("then at 2 at 2", 1, 11), ("then at 2 bake two", 1, 16), ("then at 2 bake 2 2", 1, 18),
                ("then at 2 bake 2 then", 1, 18), ("then at 2 bake 2;", 1, 17),
                ("then at 2 bake 2 then at 2 bake 2", 1, 18),
                ("then at -2 bake 2", 1, 9), ("then at 2.0 bake 2", 1, 10), ("then\tat 2 bake 2", 1, 5),
                ("then at 2 bake 2\r\n", 1, 17), ("\tthen at 2 bake 2", 1, 1), ("then at 2 bake 2\n\x0c", 2, 1),
                ("7", 1, 1), ("first at 3 bake 2\nthen at 4 bake 5", 2, 16), ("first at 3 bake 2 then", 1, 19),
                ("then at 13 bake 2", 1, 9), ("then at 1 bake 1", 1, 9), ("then at 0 bake 0", 1, 9),
                ("then at 12 bake 13", 1, 17), ("then\u00a0at 2 bake 2", 1, 5), ("then at \u0662 bake 2", 1, 9),
                ("then at 2 bake \u00b2", 1, 16), ("th\u00e9n at 2 bake 2", 1, 1), ("then at 2 bakE 2", 1, 11),
                ("first at 3 bake 2\n\n  then at 2 bake  a", 3, 19), ("first at 3 bake 2\nfirst", 2, 6),
                ("then at 2 bake 2\nthen at 2 bake 2 # x\n then 2", 3, 7), ("FIRST", 1, 1),
                ("then at 2 bake 2\nalways", 2, 1)]:
            self.assert_bad_rule(text, line, column)

    def test_zeros_and_many_figures(self):
        for number in ("02", "002", "00", "0" * 18, "2" * 18, "2" * 19, "1" + "0" * 17, "1" + "0" * 18, "2" * 5000):
            self.assert_bad_rule(f"then at {number} bake 2", 1, 9)
            self.assert_bad_rule(f"then at 2 bake {number}", 1, 16)

    def test_a_line_that_ends_too_early(self):
        words = ["then", " at", " 2", " bake"]
        for many in range(1, 5):
            line = "".join(words[:many])
            for end in ("", " ", "   ", "#", "  # bake 2", "# then at 2 bake 2"):
                self.assert_bad_rule(line + end, 1, len(line + end) + 1)
                self.assert_bad_rule("first at 3 bake 2\n" + line + end + "\nthen at 2 bake 2", 2, len(line + end) + 1)

    def test_the_first_fault_of_several(self):
        self.assert_bad_rule("then at 2 bake 3 4\nnext", 1, 16)
        self.assert_bad_rule("then at 2 bake 2\nthen at 1 bake 7\nthen at 0", 2, 9)
        self.assert_bad_rule("first at 3\nfirst at x", 1, 11)

    def test_no_string(self):
        for wrong in NO_TEXTS:
            self.assert_bad_rule(wrong, 0, 0)

    def test_no_rule(self):
        for wrong in NO_RULES + ["then at 2 bake 2\n"]:
            with self.assertRaises(BadRule) as caught:
                write_rule(wrong)
            self.assertIsNone(caught.exception.place)

    def test_long_texts(self):
        self.assertEqual(read_rule("\n" * 20000 + "then at 2 bake 2" + " " * 20000 + "#" * 20000), TWO)
        self.assert_bad_rule("a" * 100000, 1, 1)
        self.assert_bad_rule("then at 2 bake 2\n" + " " * 1000 + "b", 2, 1001)

    def test_what_is_caught(self):
        self.assertTrue(issubclass(BadText, SiltError) and issubclass(BadText, ValueError))
        for text in ("", "x", None):
            self.assertRaises(SiltError, read_rule, text)


class CalendarTextsTest(TextTest):
    def assert_same(self, rule, text, calendar):
        found = read_calendar(rule, text)
        self.assertIsInstance(found, Calendar)
        self.assertEqual([found.has(day) for day in range(130)], [calendar.has(day) for day in range(130)])
        self.assertIsNone(first_unlike(found, calendar))

    def test_plain_ones(self):
        for rule in PLAIN_RULES:
            self.assert_same(rule, "always", every_day(rule))
            for grade in (0, 1, 2, 5):
                for many in (0, 1, 2, 11):
                    self.assert_same(rule, f"{many} of {grade}", days_with(rule, grade, many))
                self.assert_same(rule, f"baking {grade}", days_baking(rule, grade))
                self.assert_same(rule, f"up to {grade}", days_deep(rule, grade))
                self.assert_same(rule, f"at most {grade}", days_few(rule, grade))
            for first in (0, 1, 7, 100, 129, 10 ** 17):
                self.assert_same(rule, f"from {first}", days_from(rule, first))

    def test_put_together(self):
        for rule in PLAIN_RULES:
            few, busy, deep = days_few(rule, 3), days_baking(rule, 1), days_deep(rule, 2)
            for text, calendar in [
                    ("at most 3 and baking 1", both(few, busy)), ("at most 3 or baking 1", either(few, busy)),
                    ("not at most 3", rest(few)), ("not not at most 3", few), ("not not not at most 3", rest(few)),
                    ("at most 3 and not baking 1", without(few, busy)), ("(at most 3)", few),
                    ("((at most 3) and (baking 1))", both(few, busy)),
                    ("at most 3 or baking 1 and up to 2", either(few, both(busy, deep))),
                    ("at most 3 and baking 1 or up to 2", either(both(few, busy), deep)),
                    ("(at most 3 or baking 1) and up to 2", both(either(few, busy), deep)),
                    ("up to 2 and (at most 3 or baking 1)", both(either(few, busy), deep)),
                    ("not at most 3 and baking 1", both(rest(few), busy)),
                    ("not at most 3 or baking 1", either(rest(few), busy)),
                    ("not (at most 3 and baking 1)", rest(both(few, busy))),
                    ("not(at most 3)and baking 1", both(rest(few), busy)),
                    ("not (not at most 3 or up to 2)", rest(either(rest(few), deep))),
                    ("at most 3 and baking 1 and up to 2", both(few, both(busy, deep))),
                    ("at most 3 or baking 1 or up to 2", either(few, either(busy, deep))),
                    ("always and not always", rest(every_day(rule)))]:
                self.assert_same(rule, text, calendar)

    def test_told_otherwise(self):
        wanted = without(days_few(TWO, 2), days_baking(TWO, 0))
        for text in ["at most 2 and not baking 0", "at most2and not baking0", "   at   most 2   and not baking 0   ",
                     "at most 2 and not baking 0# and 3 of", "at most 2 and not baking 0 # \t ;",
                     "(at most 2)and(not baking 0)",
                     "at most 2and not(baking 0)#", "( ( at most 2 ) and not ( ( baking 0 ) ) )"]:
            self.assert_same(TWO, text, wanted)

    def test_random_ones(self):
        dice = random.Random(122)
        for _ in range(150):
            rule = dice.choice(PLAIN_RULES)
            text, calendar = self.some_line(dice, rule, dice.randint(0, 3))
            self.assert_same(rule, text, calendar)

    def some_line(self, dice, rule, deep):
        """A line and its calendar; parentheses stand around all that is put together."""
        if deep == 0:
            number = dice.randint(0, 4)
            return dice.choice([("always", every_day(rule)), (f"at most {number}", days_few(rule, number)),
                                (f"{number} of 1", days_with(rule, 1, number)),
                                (f"up to {number}", days_deep(rule, number)),
                                (f"baking {number}", days_baking(rule, number)),
                                (f"from {number * 9}", days_from(rule, number * 9))])
        one, mine = self.some_line(dice, rule, deep - 1)
        other, theirs = self.some_line(dice, rule, deep - 1)
        return dice.choice([(f"({one}) and ({other})", both(mine, theirs)), (f"not({one})", rest(mine)),
                            (f"({one})or({other})", either(mine, theirs)), (f"not not({other})", theirs)])

    def test_numbers(self):
        for words, most in [("at most {}", 60), ("baking {}", 40), ("up to {}", 40), ("from {}", 10 ** 17),
                            ("{} of 1", 11), ("1 of {}", 40)]:
            column = words.index("{") + 1
            for number in (0, 1, most - 1, most):
                self.assertIsInstance(read_calendar(LAZY, words.format(number)), Calendar)
            for number in (most + 1, most * 10 + 9, "9" * 18, "9" * 19, "1" + "0" * 18, "00", "01", "0" * 19, "-1", "x",
                           "1" * 5000):
                self.assert_bad_calendar(words.format(number), column)
            for end in ("", "#", "  # 1"):
                if column > 1:
                    line = words.format("") + end
                    self.assert_bad_calendar(line, len(line) + 1)
        self.assertEqual(first_day(read_calendar(TWO, "from 100000000000000000")), 10 ** 17)
        self.assertEqual(first_day(read_calendar(TWO, "not at most 60")), 2 ** 61 - 1)
        self.assertEqual(first_day(read_calendar(TWO, "up to 40")), 2 ** 40)
        self.assertEqual(first_day(read_calendar(TWO, "baking 40")), 2 ** 41)
        self.assertEqual(first_day(read_calendar(TWO, "1 of 40")), 2 ** 40)
        self.assertEqual(first_day(read_calendar(Rule([], [(12, 12)]), "11 of 1")), 11 * 12)
        self.assertIsNone(first_day(read_calendar(TWO, "2 of 1")))

    def test_how_deep(self):
        for part in ("not ", "("):
            close = ")" if part == "(" else ""
            for many in (1, 19, 20):
                line = part * many + "at most 3" + close * many
                few = days_few(TWO, 3)
                self.assert_same(TWO, line, rest(few) if part == "not " and many < 20 else few)
            line = part * 21 + "at most 3" + close * 21
            self.assert_bad_calendar(line, 20 * len(part) + 1)
            self.assert_bad_calendar("always and " + line, 20 * len(part) + 12)
        mixed = "not(" * 10
        self.assert_same(TWO, mixed + "at most 3" + ")" * 10, days_few(TWO, 3))
        self.assert_same(TWO, mixed + "at most 3" + ")" * 10 + " and (not at most 2)",
                         both(days_few(TWO, 3), rest(days_few(TWO, 2))))
        self.assert_bad_calendar(mixed + "(always)" + ")" * 10, 41)
        self.assert_bad_calendar(mixed + "not always" + ")" * 10, 41)
        self.assert_bad_calendar(mixed + "always or not always" + ")" * 10, 51)
        # Those that are closed count no more.
        self.assert_same(TWO, " and ".join(["(" * 20 + "always" + ")" * 20] * 3), every_day(TWO))
        self.assert_same(TWO, "(" * 19 + "(always) and (always) or not always" + ")" * 19, every_day(TWO))
        self.assert_same(TWO, " and ".join(["not not always"] * 15), every_day(TWO))

    def test_what_does_not_fit(self):
        for text, column in [
                ("always always", 8), ("always)", 7), ("(always", 8), ("(always # )", 12), ("", 1), ("   ", 4),
                ("# always", 9), ("and", 1), ("or always", 1), ("always and", 11), ("always or # x", 14),
                ("always and or always", 12),
                ("not", 4), ("not and", 5), ("()", 2), ("(", 2), (")", 1), ("at 5", 4), ("at least 5", 4),
                ("most 5", 1), ("at", 3), ("at most", 8), ("up", 3), ("up to", 6),
                ("up 3", 4), ("up at 3", 4), ("baking", 7), ("baking not", 8), ("from", 5), ("2 on 1", 3), ("2", 2),
                ("2 of", 5), ("2 of of", 6), ("Always", 1), ("always And always", 8), ("always & always", 8),
                ("2of1of", 5),
                ("always not always", 8), ("(always) always", 10), ("(always always)", 9), ("always, always", 7),
                ("always\n", 7), ("\n", 1), ("\nalways", 1), ("always # x\n", 11), ("at most\n5", 8),
                ("at most # x\n5", 12), ("always and\nalways", 11), ("always\t", 7), ("always\r\n", 7),
                ("at most 5\u00a0", 10), ("alway\u015f", 1),
                ("12 of 1", 1), ("1 of 41", 6), ("at most 61", 9), ("baking 41", 8), ("up to 41", 7),
                ("from 100000000000000001", 6), ("from 1 000", 8), ("at most -1", 9), ("at most 5.0", 10),
                ("always;#", 7), ("first at 3 bake 2", 1)]:
            self.assert_bad_calendar(text, column)
            self.assert_bad_calendar(text, column, LAZY)

    def test_no_string(self):
        for wrong in NO_TEXTS:
            self.assert_bad(lambda: read_calendar(TWO, wrong), 0, 0)

    def test_no_rule_is_ahead_of_all(self):
        for wrong in NO_RULES:
            for text in ("always", "x", None):
                with self.assertRaises(BadRule) as caught:
                    read_calendar(wrong, text)
                self.assertIsNone(caught.exception.place)

    def test_each_is_new(self):
        read_calendar(TWO, "at most 3").steps.clear()
        self.assertEqual(first_day(read_calendar(TWO, "not at most 3")), 15)


if __name__ == "__main__":
    unittest.main()
