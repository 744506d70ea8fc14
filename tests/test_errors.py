"""[2], [30]: the errors and their fields."""

import inspect
import itertools
import unittest

from growwebs import errors
from tests.values import any_values

FIELDS = {
    "BadPiece": ["field"], "BadBook": ["kind"], "BadBud": ["kind", "number"], "HandedOn": ["ring"],
    "NoKind": ["kind"], "NoMouth": ["kind", "letter"], "NoPart": ["kind", "part"],
    "NoPiece": ["row"], "NoPlace": ["told"], "NoBud": ["kind", "number"],
    "NoTie": ["kind", "one", "other"], "OtherBook": [], "TooMany": ["most"], "TooFar": ["number"],
    "TooLong": ["length"], "TooGreat": [], "BadNumber": ["value"], "BadWord": ["value"],
    "BadRow": ["index"], "OutsideRow": ["number"], "BadLoop": ["field"],
    "NotBack": ["kind", "other"], "BadTimes": ["field"], "BadTale": ["field"], "NotJoined": [],
    "NoSuch": ["number"], "NotShortest": ["way"], "NotOnAll": ["value"], "BadRule": ["value"],
    "BadTable": ["key"], "Endless": [], "BadGuard": ["value"], "Refused": ["guard"],
    "NothingToUndo": [],
}


class ErrorsTest(unittest.TestCase):

    def test_the_list_is_whole(self):
        own = {name for name, value in vars(errors).items() if inspect.isclass(value)}
        self.assertEqual(own, set(FIELDS) | {"WebError"})

    def test_derivation(self):
        self.assertEqual(errors.WebError.__bases__, (ValueError,))
        for name in FIELDS:
            self.assertEqual(getattr(errors, name).__bases__, (errors.WebError,), name)

    def test_fields_by_position_by_name_and_by_both(self):
        for name, fields in FIELDS.items():
            values = [object() for _ in fields]
            for cut in range(len(fields) + 1):
                rest = list(zip(fields[cut:], values[cut:]))
                for order in itertools.permutations(rest):
                    error = getattr(errors, name)(*values[:cut], **dict(order))
                    for field, value in zip(fields, values):
                        self.assertIs(getattr(error, field), value, name)
                    self.assertIsInstance(error, errors.WebError)

    def test_fields_stay_as_they_were_passed(self):
        for value in any_values():
            error = errors.BadNumber(value)
            self.assertIs(error.value, value)
        held = [1, [2]]
        error = errors.NoPiece(held)
        self.assertEqual(held, [1, [2]])
        self.assertIs(error.row, held)

    def test_wrong_numbers_of_fields(self):
        for name, fields in FIELDS.items():
            if fields:
                with self.assertRaises(TypeError):
                    getattr(errors, name)()
                with self.assertRaises(TypeError):
                    getattr(errors, name)(*fields, 1)

    def test_they_are_raised_and_caught(self):
        with self.assertRaises(ValueError) as caught:
            raise errors.NoTie("k", 0, other="a")
        self.assertEqual((caught.exception.kind, caught.exception.one, caught.exception.other),
                         ("k", 0, "a"))
