"""[5]: the errors."""

import unittest

from latesums import errors
from tests.samples import NAME_ERRORS, VALUE_ERRORS, any_values


class Errors(unittest.TestCase):
    def test_base(self):
        self.assertEqual(errors.SumsError.__bases__, (ValueError,))

    def test_all_derive_directly_from_the_base(self):
        for name in VALUE_ERRORS + NAME_ERRORS + ["NothingToUndo"]:
            with self.subTest(name=name):
                self.assertEqual(getattr(errors, name).__bases__, (errors.SumsError,))
                self.assertEqual(getattr(errors, name).__module__, "latesums.errors")

    def test_there_are_no_others(self):
        found = [name for name, kind in vars(errors).items() if isinstance(kind, type)]
        self.assertEqual(sorted(found), sorted(VALUE_ERRORS + NAME_ERRORS + ["NothingToUndo", "SumsError"]))

    def check_field(self, name, field):
        kind = getattr(errors, name)
        self.assertIsNone(getattr(kind(), field))
        for value in any_values():
            self.assertIs(getattr(kind(value), field), value)
            self.assertIs(getattr(kind(**{field: value}), field), value)
        other = "name" if field == "value" else "value"
        self.assertFalse(hasattr(kind(1), other))
        with self.assertRaises(TypeError):
            kind(**{other: 1})

    def test_values(self):
        for name in VALUE_ERRORS:
            with self.subTest(name=name):
                self.check_field(name, "value")

    def test_names(self):
        for name in NAME_ERRORS:
            with self.subTest(name=name):
                self.check_field(name, "name")

    def test_nothing_to_undo(self):
        error = errors.NothingToUndo()
        self.assertFalse(hasattr(error, "value") or hasattr(error, "name"))

    def test_they_are_raised_and_caught(self):
        for name in VALUE_ERRORS + NAME_ERRORS + ["NothingToUndo"]:
            for caught in (getattr(errors, name), errors.SumsError, ValueError):
                with self.assertRaises(caught):
                    raise getattr(errors, name)()

    def test_each_object_has_its_own_field(self):
        one, other = errors.InvalidNumber(1), errors.InvalidNumber(2)
        self.assertEqual((one.value, other.value), (1, 2))


if __name__ == "__main__":
    unittest.main()
