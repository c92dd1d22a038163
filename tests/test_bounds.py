"""The limits, as the interface lists them."""

import unittest

from twigscripts import bounds

LISTED = {
    "MAX_DEEDS": 12, "MAX_DEEP": 40, "MAX_DEPTH": 5, "MAX_EDITS": 60, "MAX_FEW": 3,
    "MAX_NAMES": 120, "MAX_NEW": 3, "MAX_OLD": 4, "MAX_SHORT": 2, "MAX_WISHES": 12,
}


class Bounds(unittest.TestCase):

    def test_each_constant_has_its_value(self):
        found = {name: getattr(bounds, name) for name in LISTED}
        self.assertEqual(found, LISTED)

    def test_they_are_integers(self):
        for name in LISTED:
            self.assertIs(type(getattr(bounds, name)), int, name)
