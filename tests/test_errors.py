"""The error classes [20], [4]."""
import unittest

from sparetails import errors
from tests.drawing import STRANGE

FIELDS = {
    "Wrong": ["place"], "BadStatement": ["function", "address"], "Endless": ["function"], "Unknown": ["name"],
    "NoCell": ["at"], "BadRoom": ["size"], "Nothing": [], "Unfit": ["at"], "NoArray": ["index"],
    "Broken": ["at"], "NoPlace": ["place"], "TooMany": ["limit"], "NoFunction": ["name"], "Unlike": [],
    "Full": ["limit"], "NoDeed": [], "Refused": ["deed"], "NoEntry": ["many"], "NoText": [], "NoCommand": [],
}


class Errors(unittest.TestCase):
    def test_tail_error_is_a_value_error(self):
        self.assertEqual(errors.TailError.__bases__, (ValueError,))

    def test_each_is_directly_under_tail_error(self):
        for name in FIELDS:
            self.assertEqual(getattr(errors, name).__bases__, (errors.TailError,), name)

    def test_there_is_no_other_error(self):
        found = [name for name, told in vars(errors).items() if isinstance(told, type)]
        self.assertEqual(sorted(found), sorted([*FIELDS, "TailError"]))

    def test_fields_are_the_very_things_passed(self):
        for name, fields in FIELDS.items():
            for thing in STRANGE:
                passed = [[thing] for _ in fields]
                told = getattr(errors, name)(*passed)
                for field, one in zip(fields, passed):
                    self.assertIs(getattr(told, field), one)

    def test_fields_may_be_any_values(self):
        for name, fields in FIELDS.items():
            for thing in STRANGE:
                told = getattr(errors, name)(*[thing for _ in fields])
                for field in fields:
                    self.assertIs(getattr(told, field), thing)

    def test_fields_may_be_passed_by_their_names(self):
        for name, fields in FIELDS.items():
            told = getattr(errors, name)(**{field: field + " told" for field in fields})
            self.assertEqual([getattr(told, field) for field in fields], [field + " told" for field in fields])

    def test_fields_stay_what_they_are_when_raised(self):
        for name, fields in FIELDS.items():
            passed = [[name, field] for field in fields]
            with self.assertRaises(errors.TailError) as caught:
                raise getattr(errors, name)(*passed)
            for field, one in zip(fields, passed):
                self.assertIs(getattr(caught.exception, field), one)

    def test_one_argument_too_few(self):
        for name, fields in FIELDS.items():
            if fields:
                with self.assertRaises(TypeError):
                    getattr(errors, name)(*fields[1:])
                with self.assertRaises(TypeError):
                    getattr(errors, name)(*fields, 1)


if __name__ == "__main__":
    unittest.main()
