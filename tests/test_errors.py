"""Each error with its fields, by place and by name, and which stands below which."""

import unittest

from kindtells import errors
from kindtells.errors import BadText, Impossible, Missing, NoPlace, NoThing, NoWorld, TellsError, TooMany, Twice

OF_PART = (
    "BadNumber", "BadLead", "BadTold", "BadFamily", "BadWorker", "BadKind", "BadManner", "BadLot", "Misfit")
FIELDS = {
    Missing: ("value",), NoThing: ("value",), NoPlace: ("value",), NoWorld: ("value",), Twice: ("value",),
    TooMany: ("what", "most"), Impossible: ("paper",), BadText: ("line", "item")}
FIELDS.update({getattr(errors, name): ("part",) for name in OF_PART})
VALUES = ([1, [2]], None, True, "text", 0, object())


class Errors(unittest.TestCase):
    def test_all_errors_are_these(self):
        own = [value for value in vars(errors).values() if isinstance(value, type)]
        self.assertEqual({error.__name__ for error in own}, {error.__name__ for error in [TellsError, *FIELDS]})

    def test_fields_by_place_and_by_name(self):
        for error, fields in FIELDS.items():
            for at in range(len(VALUES)):
                values = [VALUES[(at + k) % len(VALUES)] for k in range(len(fields))]
                named = dict(zip(fields, values))
                for made in (error(*values), error(**named)):
                    self.assertEqual(set(vars(made)), set(fields))
                    for field, value in named.items():
                        self.assertIs(getattr(made, field), value)

    def test_fields_are_needed_and_no_more(self):
        for error, fields in FIELDS.items():
            self.assertRaises(TypeError, error)
            self.assertRaises(TypeError, error, *[1] * (len(fields) + 1))

    def test_which_stands_below_which(self):
        self.assertEqual(TellsError.__bases__, (ValueError,))
        for error in FIELDS:
            base = Missing if error in (NoThing, NoPlace, NoWorld) else TellsError
            self.assertEqual(error.__bases__, (base,))

    def test_they_can_be_raised_and_written(self):
        for error, fields in FIELDS.items():
            with self.assertRaises(TellsError):
                raise error(*["x"] * len(fields))
            self.assertIsInstance(str(error(*["x"] * len(fields))), str)


if __name__ == "__main__":
    unittest.main()
