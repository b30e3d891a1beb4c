"""0.3: the error classes."""

import unittest

from sameforms import errors
from samples import Checked, nested

FIELDS = {
    "BadFamily": ["part"], "NoNumber": [], "NoSayings": [], "NoCells": [], "TooMany": ["most"], "NoCell": [],
    "BadTable": [], "NoForm": [], "BadBook": ["part"], "NoOrder": [], "NoSets": [], "NoManner": [], "NotMade": [],
    "NoRules": [], "Clash": ["first", "second"], "OpenCell": ["cell"], "NoPattern": [], "NoTables": [],
    "NoEntry": [], "NoMark": [], "NothingDone": [], "NoAnswer": ["cell"], "BadText": ["line"], "NoLine": [],
    "NoName": ["name"], "NoSentence": [], "NoFlag": [], "OtherFamily": [], "Unlike": ["cell"],
}


class Errors(Checked):

    def test_no_other_classes(self):
        found = {name for name, thing in vars(errors).items() if isinstance(thing, type)}
        self.assertEqual(found, set(FIELDS) | {"FormError"})

    def test_derive_directly(self):
        self.assertEqual(errors.FormError.__bases__, (ValueError,))
        for name in FIELDS:
            self.assertEqual(getattr(errors, name).__bases__, (errors.FormError,), name)

    def test_fields(self):
        for name, fields in FIELDS.items():
            given = {field: number + 7 for number, field in enumerate(fields)}
            error = getattr(errors, name)(*given.values())
            self.assertEqual(vars(error), given, name)
            self.assertIsInstance(str(error), str)

    def test_keep_whatever_is_passed(self):
        for name, fields in FIELDS.items():
            for thing in [None, True, "x", nested(40, list), {}, errors.NoCell()]:
                error = getattr(errors, name)(*[thing for _ in fields])
                for field in fields:
                    self.assertIs(getattr(error, field), thing)

    def test_are_made_with_just_these(self):
        for name, fields in FIELDS.items():
            with self.assertRaises(TypeError, msg=name):
                getattr(errors, name)(*range(len(fields) + 1))
            if fields:
                with self.assertRaises(TypeError, msg=name):
                    getattr(errors, name)(*range(len(fields) - 1))

    def test_are_caught_as_such(self):
        for name, fields in FIELDS.items():
            for base in (ValueError, errors.FormError):
                with self.assertRaises(base):
                    raise getattr(errors, name)(*fields)


if __name__ == "__main__":
    unittest.main()
