"""Point [1] and the interface's section errors.py."""

import unittest

from siltstore import errors


class ErrorsTest(unittest.TestCase):
    def test_each_is_a_direct_subclass(self):
        self.assertEqual(errors.SiltError.__bases__, (ValueError,))
        for kind in (errors.BadRule, errors.BadDay, errors.BadDigits, errors.Unlike, errors.BadWeights,
                     errors.BadChoices, errors.BadText):
            self.assertEqual(kind.__bases__, (errors.SiltError,))
            self.assertEqual(kind.__module__, "siltstore.errors")

    def test_attributes(self):
        for kind in (errors.BadRule, errors.BadDigits, errors.BadChoices):
            self.assertEqual([kind(None).place, kind(3).place], [None, 3])
        self.assertEqual(errors.Unlike("baked").what, "baked")
        found = errors.BadText(2, 5)
        self.assertEqual([found.line, found.column], [2, 5])

    def test_each_has_a_message(self):
        for error in (errors.BadRule(None), errors.BadDigits(1), errors.BadChoices(0), errors.Unlike("rules"),
                      errors.BadText(0, 0)):
            self.assertTrue(str(error))


if __name__ == "__main__":
    unittest.main()
