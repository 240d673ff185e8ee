"""Point 4: the errors, and how they are related."""

import unittest

from sortclues import errors

NAMES = ["NoSchema", "NoRow", "NoRows", "NoRule", "NoStep", "NoClue", "NoClues", "NoColumns", "NoNumber",
         "NotAllowed", "Explained", "Unexplained", "Unlike", "NoText"]


class Family(unittest.TestCase):
    def test_sort_error_is_directly_below_value_error(self):
        self.assertEqual(errors.SortError.__bases__, (ValueError,))
        self.assertEqual(errors.SortError.__module__, "sortclues.errors")

    def test_each_error_is_directly_below_sort_error(self):
        for name in NAMES:
            kind = getattr(errors, name)
            self.assertEqual(kind.__bases__, (errors.SortError,), name)
            self.assertEqual((kind.__name__, kind.__module__), (name, "sortclues.errors"))

    def test_no_error_is_another_one(self):
        kinds = [getattr(errors, name) for name in NAMES]
        self.assertEqual(len(set(kinds)), len(NAMES))
        for kind in kinds:
            self.assertEqual([other for other in kinds if issubclass(kind, other)], [kind])

    def test_there_are_no_other_errors(self):
        found = [name for name, thing in vars(errors).items() if isinstance(thing, type)]
        self.assertEqual(sorted(found), sorted(NAMES + ["SortError"]))


class Attributes(unittest.TestCase):
    def test_no_text_has_the_line(self):
        error = errors.NoText(12)
        self.assertEqual(vars(error), {"line": 12})
        self.assertIn("12", str(error))

    def test_the_others_have_none(self):
        for name in NAMES[:-1]:
            self.assertEqual(vars(getattr(errors, name)("why")), {}, name)


if __name__ == "__main__":
    unittest.main()
