"""The interface: names and arguments as written, each defined in its file."""

import importlib
import inspect
import unittest

from tests.test_errors import LISTED

FUNCTIONS = {
    "twigscripts.woods": {
        "wood_error": ("value",), "row_of": ("wood",), "wood_of": ("value",), "names_of": ("wood",),
        "parent_of": ("wood", "name"), "children_of": ("wood", "name"), "is_in": ("wood", "a", "b"),
        "is_ahead": ("wood", "a", "b"), "skeleton_of": ("wood", "names"), "gaps_of": ("wood", "names"),
        "filled": ("wood", "value"),
    },
}
ERRORS = {"TwigError": (), **LISTED}


class Interface(unittest.TestCase):

    def test_functions_stand_in_their_files(self):
        for file, listed in FUNCTIONS.items():
            for name, arguments in listed.items():
                found = getattr(importlib.import_module(file), name)
                self.assertTrue(inspect.isfunction(found), name)
                self.assertEqual(found.__module__, file, name)
                self.assertEqual(tuple(inspect.signature(found).parameters), arguments, name)

    def test_error_classes_stand_in_their_file(self):
        file = importlib.import_module("twigscripts.errors")
        for name, fields in ERRORS.items():
            found = getattr(file, name)
            self.assertTrue(inspect.isclass(found), name)
            self.assertEqual(found.__module__, "twigscripts.errors", name)
            if fields:
                self.assertEqual(tuple(inspect.signature(vars(found)["__init__"]).parameters), ("self",) + fields)
