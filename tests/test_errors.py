"""Point 5: the errors."""

import copy
import inspect

from fittingdoors import errors
from tests.brute import GREAT, TestCase, wrong_kinds

FIELDS = {
    "BadParting": ("place",), "BadLot": ("word",), "BadPiece": ("word", "place"), "BadSetting": (),
    "BadTies": ("place",), "BadDoor": ("door",), "BadForm": ("path",), "BadNumber": ("value",),
    "BadName": ("name",), "BadText": ("line", "column"), "BadLetter": ("number",), "BadTerm": ("path",),
    "NotSound": ("setting",), "NothingBack": (), "TooGreat": ("most",),
}


class ErrorTests(TestCase):
    def test_base(self):
        self.assertEqual(errors.FitError.__bases__, (ValueError,))

    def test_all_are_there_directly_beneath_the_base(self):
        found = [name for name, thing in inspect.getmembers(errors, inspect.isclass)]
        self.assertEqual(sorted(found), sorted([*FIELDS, "FitError"]))
        self.assertEqual(len(FIELDS), 15)
        for name in FIELDS:
            self.assertEqual(getattr(errors, name).__bases__, (errors.FitError,))
            self.assertEqual(getattr(errors, name).__module__, "fittingdoors.errors")

    def test_fields_by_place_and_by_name(self):
        values = [*wrong_kinds(), 0, -1, GREAT, 10 ** 5000, (), (1, ("x", None)), "a\nb"]
        for name, fields in FIELDS.items():
            make = getattr(errors, name)
            for value in values:
                told = [value] * len(fields)
                for error in (make(*told), make(**dict(zip(fields, told)))):
                    self.assertIs(type(error), make)
                    for field in fields:
                        self.assertIs(getattr(error, field), value)
                    self.assertIsInstance(str(error), str)
                    self.assertIsInstance(repr(error), str)

    def test_fields_keep_their_places(self):
        error = errors.BadPiece("form", 3)
        self.assertEqual((error.word, error.place), ("form", 3))
        error = errors.BadPiece(place=3, word="form")
        self.assertEqual((error.word, error.place), ("form", 3))
        error = errors.BadText(1, 2)
        self.assertEqual((error.line, error.column), (1, 2))

    def test_values_are_not_changed(self):
        value = [1, [2]]
        kept = copy.deepcopy(value)
        self.assertIs(errors.BadNumber(value).value, value)
        self.assertEqual(value, kept)

    def test_raised_and_caught(self):
        for name, fields in FIELDS.items():
            for base in (getattr(errors, name), errors.FitError, ValueError):
                with self.assertRaises(base):
                    raise getattr(errors, name)(*fields)
