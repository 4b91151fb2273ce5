import copy
import pickle
import unittest

from holeslides import errors
from tests.things import Awkward, no_lists, no_numbers

VALUE_ERRORS = {
    "InvalidShape": "index", "InvalidMissing": "index", "InvalidRows": "index", "InvalidWord": "index",
    "InvalidOrder": "index", "NotSorted": "row", "InvalidTable": "row", "InvalidNumber": "number", "NotAlike": None,
}
LOOKUP_ERRORS = {"NoHole": "row", "NoCorner": "row", "NothingToUndo": None}
FIELDS = {**VALUE_ERRORS, **LOOKUP_ERRORS}


class TestErrors(unittest.TestCase):

    def test_there_are_twelve_with_their_base_classes(self):
        self.assertEqual(len(FIELDS), 12)
        for name in VALUE_ERRORS:
            self.assertEqual(getattr(errors, name).__bases__, (ValueError,), name)
        for name in LOOKUP_ERRORS:
            self.assertEqual(getattr(errors, name).__bases__, (LookupError,), name)

    def test_none_is_a_subclass_of_another(self):
        for name in FIELDS:
            for other in FIELDS:
                told = issubclass(getattr(errors, name), getattr(errors, other))
                self.assertIs(told, name == other, (name, other))

    def test_each_is_defined_in_the_file(self):
        for name in FIELDS:
            self.assertEqual(getattr(errors, name).__module__, "holeslides.errors")
            self.assertEqual(getattr(errors, name).__name__, name)

    def test_fields_are_set_when_an_error_is_made(self):
        for name, field in FIELDS.items():
            if field is None:
                self.assertEqual(vars(getattr(errors, name)()), {}, name)
                continue
            for thing in [None, 0, 1, 64, 10 ** 5000, "x", [1]] + no_lists() + no_numbers():
                error = getattr(errors, name)(thing)
                self.assertEqual(list(vars(error)), [field])
                self.assertIs(getattr(error, field), thing)

    def test_fields_can_be_passed_by_name(self):
        for name, field in FIELDS.items():
            if field is not None:
                self.assertEqual(getattr(getattr(errors, name)(**{field: 5}), field), 5)

    def test_text_can_be_had_whatever_a_field_holds(self):
        for name, field in FIELDS.items():
            for thing in [Awkward(), 10 ** 5000]:
                error = getattr(errors, name)() if field is None else getattr(errors, name)(thing)
                self.assertIsInstance(str(error), str)
                self.assertIsInstance(repr(error), str)

    def test_fields_stay_when_an_error_is_copied(self):
        for name, field in FIELDS.items():
            if field is not None:
                error = getattr(errors, name)(3)
                self.assertEqual(getattr(copy.copy(error), field), 3)
                self.assertEqual(getattr(pickle.loads(pickle.dumps(error)), field), 3)

    def test_each_is_caught_as_its_base_class(self):
        for name, field in FIELDS.items():
            base = ValueError if name in VALUE_ERRORS else LookupError
            with self.assertRaises(base):
                raise getattr(errors, name)() if field is None else getattr(errors, name)(1)


if __name__ == "__main__":
    unittest.main()
