"""The errors: their base, their fields, and that none is another one's base."""

import unittest

from duehouse import errors
from duehouse.errors import DueError

FIELDS = {
    "BadName": ("name",),
    "Taken": ("name",),
    "Unknown": ("name",),
    "SameName": ("name",),
    "BadNumber": ("name",),
    "TooMany": ("limit",),
    "BadEntry": ("entry",),
    "Clash": ("number",),
    "NoEntry": ("number",),
    "BadSpell": ("spell",),
    "BadRow": ("state",),
    "UnlikeSigns": (),
    "BadTable": ("table",),
    "NotBridged": ("state",),
    "Unbridged": ("life",),
    "BadMark": ("word", "value"),
    "TooLate": ("day",),
    "Closed": (),
    "NoWay": ("writer", "reader"),
    "BadClasses": ("classes",),
    "BadEvent": ("event",),
    "NoLetter": ("index",),
    "NoMark": ("mark",),
    "HouseWrong": ("office",),
    "Blamed": ("mark",),
    "BadLine": ("line", "word"),
}


class ErrorsTest(unittest.TestCase):
    def test_base(self):
        self.assertEqual(DueError.__bases__, (ValueError,))

    def test_all_are_there(self):
        found = [
            name
            for name, value in vars(errors).items()
            if isinstance(value, type) and issubclass(value, DueError) and value is not DueError
        ]
        self.assertEqual(sorted(found), sorted(FIELDS))

    def test_each_is_directly_below_the_base(self):
        for name in FIELDS:
            with self.subTest(name):
                self.assertEqual(getattr(errors, name).__bases__, (DueError,))

    def test_fields(self):
        for name, fields in FIELDS.items():
            with self.subTest(name):
                values = [object() for _ in fields]
                error = getattr(errors, name)(*values)
                self.assertEqual(vars(error), dict(zip(fields, values)))
                named = getattr(errors, name)(**dict(zip(fields, values)))
                self.assertEqual(vars(named), dict(zip(fields, values)))

    def test_none_of_its_sisters(self):
        for name, fields in FIELDS.items():
            error = getattr(errors, name)(*fields)
            self.assertIsInstance(error, DueError)
            self.assertIsInstance(error, ValueError)
            for other in FIELDS:
                self.assertEqual(isinstance(error, getattr(errors, other)), name == other)


if __name__ == "__main__":
    unittest.main()
