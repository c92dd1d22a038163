"""[21] and [2]: the error classes, their fields and what they derive from."""

import unittest

from twigscripts import errors
from twigscripts.errors import TwigError

TWIG_ERRORS = {
    "BadDeed": ("error",), "BadGaps": (), "BadNames": (), "BadRow": ("place",), "BadScript": ("error",),
    "BadText": ("position",), "BadWish": ("error",), "BadWood": ("error",), "Broken": (), "Busy": (),
    "Clash": ("name",), "Lost": ("name",), "NothingToUndo": (), "Stopped": ("index", "word"),
    "TooMany": ("limit",), "TooManyEdits": (), "Unlike": (),
}
LOOKUP_ERRORS = {"NoName": ("name",), "NoVersion": ("value",)}
LISTED = {**TWIG_ERRORS, **LOOKUP_ERRORS}


def made(name):
    """An error of this class, and the objects it was made with."""
    given = [[name, field] for field in LISTED[name]]
    return getattr(errors, name)(*given), given


class Errors(unittest.TestCase):

    def test_fields_are_the_very_objects_passed(self):
        for name, fields in LISTED.items():
            error, given = made(name)
            for field, value in zip(fields, given):
                self.assertIs(getattr(error, field), value, (name, field))
            self.assertEqual(list(vars(error)), list(fields), name)

    def test_fields_take_any_value(self):
        for value in (None, True, 0, -1, "", "a", (), ("a", 1), [], {}, {"a": []}):
            for name, fields in LISTED.items():
                error = getattr(errors, name)(*[value] * len(fields))
                for field in fields:
                    self.assertIs(getattr(error, field), value, (name, field))

    def test_two_fields_are_in_their_order(self):
        error = errors.Stopped(3, "inside")
        self.assertEqual((error.index, error.word), (3, "inside"))

    def test_they_are_caught_by_their_own_class(self):
        for name in LISTED:
            error, _ = made(name)
            with self.assertRaises(getattr(errors, name)) as caught:
                raise error
            self.assertIs(caught.exception, error)

    def test_twig_error_is_a_value_error(self):
        self.assertTrue(issubclass(TwigError, ValueError))
        self.assertFalse(issubclass(TwigError, LookupError))

    def test_twig_errors(self):
        for name in TWIG_ERRORS:
            self.assertTrue(issubclass(getattr(errors, name), TwigError), name)
            self.assertFalse(issubclass(getattr(errors, name), LookupError), name)

    def test_lookup_errors_derive_directly(self):
        for name in LOOKUP_ERRORS:
            self.assertEqual(getattr(errors, name).__bases__, (LookupError,), name)

    def test_none_is_a_subclass_of_another(self):
        for name in LISTED:
            for other in LISTED:
                if name != other:
                    found = issubclass(getattr(errors, name), getattr(errors, other))
                    self.assertFalse(found, (name, other))

    def test_they_are_shown_as_in_the_document(self):
        self.assertEqual(repr(errors.BadRow(2)), "BadRow(2)")
        self.assertEqual(repr(errors.Stopped(1, "inside")), "Stopped(1, 'inside')")
