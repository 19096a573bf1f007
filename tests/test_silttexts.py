"""Point [30] and the interface's section silttexts.py."""

import inspect
import random
import unittest

from siltstore import silttexts
from siltstore.drills import Drill
from siltstore.errors import BadText as OtherBadText
from siltstore.scripts import judge_script
from siltstore.sheeterrors import BadSheet, BadText
from siltstore.sheets import Sheet
from siltstore.silttexts import read_drill, read_script, read_sheet, write_drill, write_script, write_sheet
from test_drills import some_made, some_step
from test_scripts import FALL, some_script
from test_sheets import some_sheet

READERS = (read_sheet, read_script, read_drill)
NO_TEXTS = [None, 3, True, b"fall", ["fall"], ("fall",), 1.0, {}, Sheet({})]
SMALL = "file a 1 to 2\nfile b 3 to 3\nstart a told 2\n"


def told_otherwise(dice, text):
    """A text with other blanks, with remarks and with empty lines, that tells the same."""
    lines = []
    for line in text.split("\n"):
        words = line.replace("=", " = ").split()
        line = words[0] if words else ""
        for word in words[1:]:
            tight = word == "=" or line.endswith("=")
            line += " " * dice.randint(0 if tight else 1, 3) + word
        line = " " * dice.randint(0, 2) + line + " " * dice.randint(0, 2)
        lines += dice.choice([[], [], [""], ["   "], ["# 12 = no line"], ["  #"]])
        lines.append(line + dice.choice(["", "", "#", "# A remark, = 007", "## told"]))
    return "\n".join(lines)


class TextsTest(unittest.TestCase):
    def assert_bad(self, read, text, *place):
        with self.assertRaises(BadText) as caught:
            read(text)
        self.assertEqual((caught.exception.line, caught.exception.column), place, text)
        self.assertNotIsInstance(caught.exception, OtherBadText)


class ReadAndWriteTest(TextsTest):
    def test_names(self):
        for name, told in [("read_sheet", "(text)"), ("read_script", "(text)"), ("read_drill", "(text)"),
                           ("write_sheet", "(sheet)"), ("write_script", "(deeds)"), ("write_drill", "(drill)")]:
            self.assertEqual(getattr(silttexts, name).__module__, "siltstore.silttexts")
            self.assertEqual(str(inspect.signature(getattr(silttexts, name))), told)

    def test_example(self):
        told = [write_sheet(read_sheet("9 gone\n3 to 8 gone # most\n7 = a")),
                read_script("fall\nfall\nbake 0 1 to 0 drop")[2]]
        self.assertEqual(told, ["3 to 6 gone\n7 = a\n8 to 9 gone\n", ("bake", (0, 1), 0, False)])
        text = write_drill(read_drill("file a 1 to 2\nstart a told 2\nline a a\nsync list"))
        self.assertEqual(text, "file a 1 to 2\nstart a told 2\nline a a\nsync list\n")

    def test_no_text(self):
        for read in READERS:
            for wrong in NO_TEXTS:
                self.assert_bad(read, wrong, 0, 0)

    def test_sheets(self):
        dice = random.Random(301)
        for _ in range(150):
            leaves, marks, ranges, _ = some_sheet(dice)
            sheet = Sheet(leaves, marks, ranges)
            text = write_sheet(sheet)
            lines = [(key, f"{key} = {value}") for key, value in sheet.leaves.items()]
            lines += [(first, f"{first} gone" if first == last else f"{first} to {last} gone")
                      for first, last in sheet.gone]
            self.assertEqual(text, "".join(f"{line}\n" for _, line in sorted(lines)))
            self.assertEqual(read_sheet(text), sheet)
            self.assertEqual(read_sheet(told_otherwise(dice, text)), sheet)
            things = [f"{key} = {value}" for key, value in leaves.items()] + [f"{key} gone" for key in marks]
            things += [f"{first} to {last} gone" for first, last in ranges]
            dice.shuffle(things)
            self.assertEqual(read_sheet("\n".join(things)), sheet)

    def test_plain_sheets(self):
        for text, sheet in [("", Sheet({})), ("\n\n", Sheet({})), ("# nothing", Sheet({})), ("   ", Sheet({})),
                            ("0 = 0", Sheet({0: "0"})), ("999999=gone", Sheet({999999: "gone"})),
                            ("12 = 007\n", Sheet({12: "007"})), ("12 = to#13 = no", Sheet({12: "to"})),
                            ("12 = abcdefghijkl", Sheet({12: "abcdefghijkl"})), ("5 to 5 gone", Sheet({}, [5])),
                            ("0 to 999999 gone", Sheet({}, [], [(0, 999999)])), ("5 gone\n5 gone", Sheet({}, [5])),
                            ("3 to 8 gone\n5 gone\n6 = a", Sheet({6: "a"}, [5], [(3, 8)])),
                            ("6 = a\n3 to 8 gone\n6 to 6 gone", Sheet({6: "a"}, [], [(3, 8)]))]:
            self.assertEqual(read_sheet(text), sheet)
        self.assertEqual(write_sheet(Sheet({})), "")
        self.assertEqual(write_sheet(Sheet({}, [9], [(999998, 999999)])), "9 gone\n999998 to 999999 gone\n")

    def test_scripts(self):
        dice = random.Random(302)
        for _ in range(150):
            deeds = some_script(dice, 24, 0, 0.5)
            lines = ["fall" if deed == FALL else f"bake {' '.join(map(str, deed[1]))} to {deed[2]} "
                     + ("keep" if deed[3] else "drop") for deed in deeds]
            for given in (deeds, tuple(deeds)):
                self.assertEqual(write_script(given), "".join(f"{line}\n" for line in lines))
            self.assertEqual(read_script(write_script(deeds)), deeds)
            found = read_script(told_otherwise(dice, write_script(deeds)))
            self.assertEqual(found, deeds)
            self.assertIsInstance(found, list)
            judge_script(found)

    def test_plain_scripts(self):
        for text, deeds in [("", []), ("\n # fall\n", []), ("fall", [FALL]), ("fall\n\nfall\n", [FALL, FALL]),
                            ("bake 0 to 0 keep", [("bake", (0,), 0, True)]),
                            ("bake 19 3 to 999999 drop", [("bake", (19, 3), 999999, False)]),
                            ("  bake  1 0  to 0  keep # fall", [("bake", (1, 0), 0, True)]),
                            ("bake 0 to 7 drop\nfall", [("bake", (0,), 7, False), FALL])]:
            self.assertEqual(read_script(text), deeds)
        for deed in read_script("bake 0 to 7 drop\nbake 0 to 7 keep"):
            self.assertIsInstance(deed[1], tuple)
            self.assertIsInstance(deed[3], bool)
        self.assertEqual(write_script([]), "")

    def test_drills(self):
        dice = random.Random(303)
        for _ in range(150):
            drill, _ = some_made(dice)
            if dice.random() < 0.7:
                drill = drill.with_steps([some_step(dice, drill.files) for _ in range(dice.randint(0, 24))])
            lines = [f"file {name} {first} to {last}" for name, (first, last) in sorted(drill.files.items())]
            lines.append(" ".join(["start", *drill.start, "told", str(drill.told)]))
            for step in drill.steps:
                lines.append(" ".join(["line", *step[1]]) if step[0] == "line" else " ".join(step))
            text = write_drill(drill)
            self.assertEqual(text, "".join(f"{line}\n" for line in lines))
            self.assertEqual(read_drill(text), drill)
            self.assertEqual(read_drill(told_otherwise(dice, text)), drill)

    def test_plain_drills(self):
        files = {"a": (1, 2), "b": (3, 3)}
        for text, drill in [(SMALL, Drill(files, ("a",), 2, [])), (SMALL + "line", Drill(files, ("a",), 2, [("line", ())])),
                            (SMALL + "told\nsync list\nsync a\ndrop b\nwrite b\nline b a",
                             Drill(files, ("a",), 2, [("told",), ("sync", "list"), ("sync", "a"), ("drop", "b"),
                                                      ("write", "b"), ("line", ("b", "a"))])),
                            ("file b 3 to 3\n\nfile a 1 to 2#\n start  b a a  told 0", Drill(files, ("b", "a", "a"), 0, [])),
                            ("file a 1 to 2\nstart told 999999", Drill({"a": (1, 2)}, (), 999999, [])),
                            ("file abcdefgh 999999 to 999999\nstart told 0", Drill({"abcdefgh": (999999,) * 2}, (), 0, [])),
                            ("file to 1 to 1\nfile file 1 to 1\nfile start 1 to 1\nfile line 1 to 1\nfile sync 2 to 2\n"
                             "start file start to line told 1\nsync sync\nline line to\nwrite file\ndrop start",
                             Drill({"to": (1, 1), "file": (1, 1), "start": (1, 1), "line": (1, 1), "sync": (2, 2)},
                                   ("file", "start", "to", "line"), 1,
                                   [("sync", "sync"), ("line", ("line", "to")), ("write", "file"), ("drop", "start")]))]:
            self.assertEqual(read_drill(text), drill)
            self.assertEqual(read_drill(write_drill(drill)), drill)

    def test_what_is_written_is_not_changed(self):
        deeds = [FALL, ("bake", (0,), 0, True)]
        write_script(deeds)
        read_script("fall").clear()
        self.assertEqual((deeds, read_script("fall")), ([FALL, ("bake", (0,), 0, True)], [FALL]))


class BadSheetTextsTest(TextsTest):
    def test_words(self):
        for text, *place in [
                ("x", 1, 1), ("=", 1, 1), ("12", 1, 3), ("12 # = a", 1, 9), ("12  ", 1, 5), ("  12 = ", 1, 8),
                ("12 a", 1, 4), ("12 a = b", 1, 4), ("12 = = a", 1, 6), ("12 = A", 1, 6), ("12 = aB", 1, 7), ("12 = a-b", 1, 7),
                ("12 = a b", 1, 8), ("12 = abcdefghijklm", 1, 6), ("12 = a # b\n13", 2, 3), ("12 gone 3", 1, 9),
                ("12 gone gone", 1, 9), ("12 Gone", 1, 4), ("12gone", 1, 1), ("12 gone!", 1, 8), ("012 gone", 1, 1),
                ("00 = a", 1, 1), ("0 = a\n01 = a", 2, 1), ("1000000 = a", 1, 1), ("1000000 gone", 1, 1), ("-1 = a", 1, 1),
                ("1.0 = a", 1, 2), ("20 to", 1, 6), ("20 to 30", 1, 9), ("20 to 30 # gone", 1, 16), ("20 to gone", 1, 7),
                ("20 to 30 = a", 1, 10), ("20 to 030 gone", 1, 7), ("20 to 1000000 gone", 1, 7), ("20 to 19 gone", 1, 7),
                ("20 to 30 gone 1", 1, 15), ("20 30 gone", 1, 4), ("20 to 20 gone\n20 to 0 gone", 2, 7), ("\t12 = a", 1, 1),
                ("12\t= a", 1, 3), ("12 = a\r\n", 1, 7), ("12 = \u00e9", 1, 6), ("\u0661 = a", 1, 1), ("\u00b2 = a", 1, 1),
                ("12 = a\n\n\n 13 = a b\n!", 4, 9), ("a = 12", 1, 1), ("to 30 gone", 1, 1), ("gone", 1, 1), ("12 == a", 1, 5),
                ("12 gone = a", 1, 9), ("# a\n12 : a", 2, 4), ("12 = a = b", 1, 8), ("12 to 13 14 gone", 1, 10)]:
            self.assert_bad(read_sheet, text, *place)

    def test_keys_that_are_told_already(self):
        for text, *place in [
                ("12 = a\n12 = a", 2, 1), ("12 = a\n  12 = b", 2, 3), ("12 gone\n12 = a", 2, 1), ("12 = a\n12 gone", 2, 1),
                ("12 = a\n 12 = !", 2, 2), ("12 = a\n12 =", 2, 1), ("12 = a\n12 gone x", 2, 1), ("12 gone\n12 = a b", 2, 1),
                ("12 = a\n12 x", 2, 4), ("12 = a\n12", 2, 3), ("5 = a\n3 to 8 gone\n5 gone", 3, 1),
                ("3 to 8 gone\n5 gone\n5 = a", 3, 1)]:
            self.assert_bad(read_sheet, text, *place)
        for text, sheet in [("12 gone\n12 gone", Sheet({}, [12])), ("12 = a\n12 to 12 gone", Sheet({12: "a"})),
                            ("12 to 13 gone\n12 = a\n13 gone", Sheet({12: "a"}, [13])),
                            ("12 gone\n12 to 14 gone", Sheet({}, [], [(12, 14)]))]:
            self.assertEqual(read_sheet(text), sheet)

    def test_61st_line(self):
        lines = [f"{key} = a" for key in range(60)]
        self.assertEqual(len(read_sheet("\n".join(lines))), 60)
        self.assertEqual(len(read_sheet("\n\n# more\n".join(lines) + "\n# more")), 60)
        for more in ("70 = a", "70 gone", "3 to 4 gone", "!", "x", "70", "5 = a", "070 = a"):
            self.assert_bad(read_sheet, "\n".join(lines) + "\n\n  " + more, 62, 3)
        self.assert_bad(read_sheet, "\n".join(lines[:59] + ["60 = !", "61 = a"]), 60, 6)
        marks = ["7 gone"] * 30 + ["3 to 9 gone"] * 30
        self.assertEqual(read_sheet("\n".join(marks)), Sheet({}, [], [(3, 9)]))
        self.assert_bad(read_sheet, "\n".join([*marks, "7 gone"]), 61, 1)

    def test_too_many_leaves_and_stretches(self):
        lines = [f"{2 * key} = a" for key in range(1, 31)] + ["1 to 61 gone"]
        with self.assertRaises(BadSheet):
            read_sheet("\n".join(lines))
        # What cannot be read is told of ahead of what is no sheet.
        self.assert_bad(read_sheet, "\n".join([*lines, "62 ="]), 32, 5)
        self.assertEqual(len(read_sheet("\n".join(lines[:29] + ["1 to 59 gone"])).gone), 30)


class BadScriptTextsTest(TextsTest):
    def test_words(self):
        for text, *place in [
                ("x", 1, 1), ("fall fall", 1, 6), ("fall 1", 1, 6), ("Fall", 1, 1), ("falls", 1, 1), ("fall\nrise", 2, 1),
                ("bake", 1, 5), ("bake # 1", 1, 9), ("bake to 0 keep", 1, 6), ("bake 1", 1, 7), ("bake 1 # to", 1, 12),
                ("bake 1 to", 1, 10), ("bake 1 to 0", 1, 12), ("bake 1 to 0 ", 1, 13), ("bake 1 to keep", 1, 11),
                ("bake 1 to 0 1", 1, 13), ("bake 1 to 0 keep drop", 1, 18), ("bake 1 to 0 kept", 1, 13),
                ("bake 1 to 00 keep", 1, 11), ("bake 01 to 0 keep", 1, 6), ("bake 1 02 to 0 keep", 1, 8),
                ("bake 1 1 to 0 keep", 1, 8), ("bake 1 0 2 0 to 0 keep", 1, 12), ("bake 1 1", 1, 8), ("bake 20 to 0 keep", 1, 6),
                ("bake 1 20 to 0 keep", 1, 8), ("bake 1 to 1000000 keep", 1, 11), ("bake -1 to 0 keep", 1, 6),
                ("bake 1, 0 to 0 keep", 1, 7), ("bake 1 to -1 keep", 1, 11), ("bake 1to 0 keep", 1, 6), ("bake keep", 1, 6),
                ("bake 1 x to 0 keep", 1, 8), ("drop", 1, 1), ("1 to 0 keep", 1, 1), ("fall\n\nbake 0 to 0 keep\nfall!", 4, 5),
                ("fall\r\nfall", 1, 5), ("bake (0) to 0 keep", 1, 6)]:
            self.assert_bad(read_script, text, *place)

    def test_25th_deed(self):
        text = "fall\n" * 23 + "# one more\nbake 0 1 to 0 keep\n\n"
        self.assertEqual(len(read_script(text)), 24)
        for more in ("fall", "bake 0 to 0 keep", "x", "7"):
            self.assert_bad(read_script, text + " " + more, 27, 2)


class BadDrillTextsTest(TextsTest):
    def test_without_a_start(self):
        for text, line in [("", 2), ("\n", 3), ("file a 1 to 2", 2), ("file a 1 to 2\n", 3), ("# start told 0\n\n\n", 5),
                           ("file a 1 to 2\nfile b 1 to 2\n# start", 4)]:
            self.assert_bad(read_drill, text, line, 1)

    def test_files(self):
        for text, *place in [
                ("x", 1, 1), ("file", 1, 5), ("file # a", 1, 9), ("file a", 1, 7), ("file a 1", 1, 9), ("file a 1 to", 1, 12),
                ("file a 1 to 2 3", 1, 15), ("file a 0 to 2", 1, 8), ("file a 01 to 2", 1, 8), ("file a 1000000 to 2", 1, 8),
                ("file a 3 to 2", 1, 13), ("file a 1 to 0", 1, 13), ("file a 1 to 02", 1, 13), ("file a 1 to 1000000", 1, 13),
                ("file a b to 2", 1, 8), ("file a 1 2", 1, 10), ("file 1 1 to 2", 1, 6), ("file a1 1 to 2", 1, 6),
                ("file list 1 to 2", 1, 6), ("file told 1 to 2", 1, 6), ("file abcdefghi 1 to 2", 1, 6), ("file A 1 to 2", 1, 6),
                ("file a 1 to 2\nfile a 1 to 2", 2, 6), ("file a 1 to 2\n file  a 0 to 2", 2, 8), ("start told 0", 1, 1),
                (" # file a 1 to 2\n start told 0\nfile a 1 to 2", 2, 2), ("file a 1 to 2\nwrite a", 2, 1), ("told", 1, 1),
                ("file a 1 to 2\nfiles b 1 to 2", 2, 1), ("file a 1 to 2 start a told 2", 1, 15), ("file a 1 to 2,", 1, 14)]:
            self.assert_bad(read_drill, text, *place)
        files = "".join(f"file {letter} 1 to 2\n" for letter in "abcdefgh")
        self.assertEqual(len(read_drill(files + "start told 0").files), 8)
        for more in ("file i 1 to 2", "file a 1 to 2", "file !", "x"):
            self.assert_bad(read_drill, files + " " + more + "\nstart told 0", 9, 2)

    def test_start(self):
        for text, *place in [
                ("start", 6), ("start # told 0", 15), ("start a", 8), ("start a told", 13), ("start a told # 2", 17),
                ("start a told 2 3", 16), ("start c told 2", 7), ("start a c told 2", 9), ("start list told 2", 7),
                ("start a 2", 9), ("start a, b told 2", 8), ("start told told 2", 12), ("start a told 02", 14),
                ("start a told 1000000", 14), ("start a told -1", 14), ("start a told a", 14), ("starts a told 2", 1),
                ("start A told 2", 7)]:
            self.assert_bad(read_drill, "file a 1 to 2\nfile b 3 to 3\n" + text, 3, *place)

    def test_steps(self):
        for text, column in [
                ("file c 1 to 2", 1), ("start a told 2", 1), ("x", 1), ("write", 6), ("write # a", 10), ("write c", 7),
                ("write list", 7), ("write told", 7), ("write a b", 9), ("write 1", 7), ("sync", 5), ("sync c", 6),
                ("sync told", 6), ("sync list list", 11), ("sync a b", 8), ("sync list a", 11), ("drop", 5), ("drop list", 6),
                ("drop c", 6), ("drop a a", 8), ("line c", 6), ("line a c", 8), ("line list", 6), ("line a told", 8),
                ("line a, b", 7), ("told 1", 6), ("told told", 6), ("Told", 1), ("list", 1), ("told!", 5), ("a", 1)]:
            self.assert_bad(read_drill, SMALL + "sync a\n" + text + "\ntold", 5, column)

    def test_25th_step(self):
        text = SMALL + "\nline\n# more\n" + "told\n" * 23
        self.assertEqual(len(read_drill(text)), 24)
        for more in ("told", "line c", "x", "sync"):
            self.assert_bad(read_drill, text + "\n  " + more, 31, 3)


if __name__ == "__main__":
    unittest.main()
