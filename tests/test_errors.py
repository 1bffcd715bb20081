"""Promise 15: the refusals."""

import unittest

from rowsbeneath import errors
from tests.helpers import ODD_THINGS

FIELDS = {
    "NoText": ("place",), "Twice": ("name",), "NoName": ("name",), "NoFit": ("name",), "BadLine": ("line",),
    "NoKind": ("name",), "NoRow": ("row",), "NoState": ("thing",), "BadStep": ("thing",), "NoPlaces": ("many",),
    "NoSize": ("thing",), "NoRoom": ("kind", "lacking"), "Crowded": ("kind", "needed"), "NoBudget": ("thing",),
    "Within": (), "NoChange": ("kind",), "Unlike": ("word",), "NotPlain": ("kind",), "NoLine": (),
}


class Refusals(unittest.TestCase):
    def test_there_are_nineteen_and_rows_error(self):
        found = {name for name, thing in vars(errors).items() if isinstance(thing, type)}
        self.assertEqual(found, set(FIELDS) | {"RowsError"})
        self.assertEqual(len(FIELDS), 19)

    def test_each_stands_straight_under_rows_error(self):
        self.assertEqual(errors.RowsError.__bases__, (ValueError,))
        for name in FIELDS:
            self.assertEqual(getattr(errors, name).__bases__, (errors.RowsError,), name)

    def test_fields_are_the_very_things(self):
        for name, fields in FIELDS.items():
            for thing in ODD_THINGS + (object(),):
                things = [thing, [thing]][:len(fields)]
                refusal = getattr(errors, name)(*things)
                self.assertEqual(tuple(vars(refusal)), fields)
                for field, given in zip(fields, things):
                    self.assertIs(getattr(refusal, field), given)

    def test_what_is_changed_later_is_changed_in_the_refusal(self):
        thing = [1]
        refusal = errors.NoState(thing)
        thing.append(2)
        self.assertEqual(refusal.thing, [1, 2])

    def test_made_of_nothing_they_have_no_field(self):
        self.assertEqual(vars(errors.Within()), {})
        self.assertEqual(vars(errors.NoLine()), {})

    def test_made_of_as_many_things_as_told(self):
        for name, fields in FIELDS.items():
            with self.assertRaises(TypeError):
                getattr(errors, name)(*(["x"] * (len(fields) + 1)))
            if fields:
                with self.assertRaises(TypeError):
                    getattr(errors, name)(*(["x"] * (len(fields) - 1)))

    def test_rows_error_is_made_of_one_text(self):
        self.assertEqual(str(errors.RowsError("some words")), "some words")
        self.assertEqual(vars(errors.RowsError("some words")), {})

    def test_words_are_told_of_things_that_cannot_be_shown(self):
        deep = []
        for _ in range(100000):
            deep = [deep]
        self.assertIsInstance(str(errors.NoKind(deep)), str)
        while deep:
            deep = deep[0]

    def test_taken_as_rows_error_and_as_value_error(self):
        for under in (errors.RowsError, ValueError):
            with self.assertRaises(under):
                raise errors.NoText(3)
        with self.assertRaises(errors.NoFit):
            try:
                raise errors.NoFit("a")
            except (errors.NoName, errors.Twice):
                self.fail("no refusal stands under another one")


if __name__ == "__main__":
    unittest.main()
