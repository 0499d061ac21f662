"""[2]: the error classes."""
import sys
import unittest
from pathlib import Path

sys.path.insert(0, str(Path(__file__).parent))

from checks import ATTRIBUTES
from risingday import errors

OF_DAYS = [name for name in ATTRIBUTES if name not in ("TooMany", "NothingToUndo")]


class Unshown:
    """A value that cannot be compared, shown or hashed."""

    __hash__ = None

    def __eq__(self, other):
        raise RuntimeError("compared")

    def __repr__(self):
        raise RuntimeError("shown")


class ErrorClasses(unittest.TestCase):
    def test_made_by_position_and_by_name_from_any_value(self):
        for value in (None, True, 0, -5, "word", ("a", 0), [1], {"a": []}, {1}, object(), len, ValueError, Unshown()):
            for name, attribute in ATTRIBUTES.items():
                error = getattr(errors, name)
                self.assertIs(getattr(error(value), attribute), value)
                self.assertIs(getattr(error(**{attribute: value}), attribute), value)

    def test_made_from_one_argument(self):
        for name in ATTRIBUTES:
            error = getattr(errors, name)
            with self.assertRaises(TypeError):
                error()
            with self.assertRaises(TypeError):
                error(1, 2)
            with self.assertRaises(TypeError):
                error(other=1)

    def test_day_error_is_the_base_of_all_but_two(self):
        self.assertTrue(issubclass(errors.DayError, ValueError))
        for name in OF_DAYS:
            self.assertTrue(issubclass(getattr(errors, name), errors.DayError), name)
        for name in ("TooMany", "NothingToUndo"):
            self.assertFalse(issubclass(getattr(errors, name), errors.DayError))
            self.assertFalse(issubclass(getattr(errors, name), ValueError))
        self.assertTrue(issubclass(errors.TooMany, OverflowError))
        self.assertTrue(issubclass(errors.NothingToUndo, RuntimeError))
        self.assertFalse(issubclass(errors.TooMany, RuntimeError))
        self.assertFalse(issubclass(errors.NothingToUndo, OverflowError))

    def test_none_is_derived_from_another_one(self):
        for name in ATTRIBUTES:
            for other in ATTRIBUTES:
                if name != other:
                    self.assertFalse(issubclass(getattr(errors, name), getattr(errors, other)), (name, other))

    def test_day_errors_derive_from_no_other_error(self):
        for name in OF_DAYS:
            for other in (KeyError, IndexError, LookupError, TypeError, OverflowError, RuntimeError):
                self.assertFalse(issubclass(getattr(errors, name), other), name)

    def test_raised_and_caught(self):
        with self.assertRaises(errors.DayError):
            raise errors.BadPart("rows")
        with self.assertRaises(OverflowError):
            raise errors.TooMany(10)
        with self.assertRaises(RuntimeError):
            raise errors.NothingToUndo("step")


if __name__ == "__main__":
    unittest.main()
