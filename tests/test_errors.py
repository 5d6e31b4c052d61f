"""[11], with [4]: the error classes."""

import unittest

from pinsenough import errors
from brute import any_values

FIELDS = {
    "Broken": "duty", "Doubling": "found", "NoCommand": None, "NoIndex": "index", "NoReading": "node",
    "NoText": "at", "NotEnough": "other", "Nothing": None, "TooMany": "most", "Unbounded": "found", "Wrong": "place",
}


class ErrorsTest(unittest.TestCase):
    def test_subclasses(self):
        self.assertEqual(errors.PinError.__bases__, (ValueError,))
        for name in FIELDS:
            self.assertEqual(getattr(errors, name).__bases__, (errors.PinError,), name)

    def test_none_is_a_subclass_of_another(self):
        for name in FIELDS:
            for other in FIELDS:
                if other != name:
                    self.assertFalse(issubclass(getattr(errors, name), getattr(errors, other)))

    def test_fields_are_the_very_objects(self):
        for name, field in FIELDS.items():
            if field is not None:
                for value in any_values():
                    error = getattr(errors, name)(value)
                    self.assertIs(getattr(error, field), value)
                    self.assertEqual(list(vars(error)), [field])

    def test_without_arguments(self):
        for name, field in FIELDS.items():
            if field is None:
                self.assertEqual(vars(getattr(errors, name)()), {})

    def test_no_other_class(self):
        names = [name for name in vars(errors) if isinstance(vars(errors)[name], type)]
        self.assertEqual(sorted(names), sorted([*FIELDS, "PinError"]))

    def test_raised_and_caught(self):
        for name, field in FIELDS.items():
            error = getattr(errors, name)() if field is None else getattr(errors, name)([1])
            for caught in (getattr(errors, name), errors.PinError, ValueError):
                with self.assertRaises(caught):
                    raise error


if __name__ == "__main__":
    unittest.main()
