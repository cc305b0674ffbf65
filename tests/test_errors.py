"""Errors: their bases and their fields."""

import unittest

from answerpiles import errors

FIELDS = {
    "BadDeed": "part", "BadWaking": "part", "BadRules": "part", "BadTable": "table",
    "BadEntry": "entry", "BadHands": "value", "BadMove": "move", "BadPlace": "place",
    "BadText": "line", "BadSeat": "seat", "BadNumber": "number", "BadArgument": "value",
    "BadChange": "value", "BadCommand": "command",
}


class ErrorsTest(unittest.TestCase):
    def test_bases(self):
        self.assertEqual(errors.PileError.__bases__, (ValueError,))
        for name in FIELDS:
            self.assertEqual(getattr(errors, name).__bases__, (errors.PileError,))
        self.assertEqual(errors.TooMany.__bases__, (OverflowError,))
        self.assertEqual(errors.NotThere.__bases__, (LookupError,))
        self.assertEqual(errors.NothingLeft.__bases__, (LookupError,))

    def test_fields_are_kept_as_they_are(self):
        value = [1, {"a": object()}]
        for name, field in list(FIELDS.items()) + [("TooMany", "most"), ("NotThere", "word")]:
            kind = getattr(errors, name)
            self.assertIs(getattr(kind(value), field), value)
            self.assertIs(getattr(kind(**{field: value}), field), value)
            self.assertIsNone(getattr(kind(None), field))
            with self.assertRaises(TypeError):
                kind()

    def test_errors_can_be_raised_and_caught(self):
        with self.assertRaises(errors.PileError):
            raise errors.BadCommand(command=3)
        with self.assertRaises(ValueError):
            raise errors.BadSeat(5)
        with self.assertRaises(OverflowError):
            raise errors.TooMany(2000)
        with self.assertRaises(LookupError):
            raise errors.NotThere(word="a")
        with self.assertRaises(LookupError):
            raise errors.NothingLeft()
        with self.assertRaises(ValueError):
            raise errors.PileError("so")
