"""The interface: names and arguments as written, each defined in its file."""

import importlib
import inspect
import unittest

from tests.test_errors import LISTED

FUNCTIONS = {
    "twigscripts.woods": {
        "wood_error": ("value",), "row_of": ("wood",), "wood_of": ("value",), "names_of": ("wood",),
        "parent_of": ("wood", "name"), "children_of": ("wood", "name"), "is_in": ("wood", "a", "b"),
        "is_ahead": ("wood", "a", "b"), "skeleton_of": ("wood", "names"), "gaps_of": ("wood", "names"),
        "filled": ("wood", "value"),
    },
    "twigscripts.deeds": {
        "deed_error": ("value",), "script_error": ("value",), "old_names": ("script",), "new_names": ("script",),
        "do_deed": ("wood", "deed"), "do_script": ("wood", "script"),
    },
    "twigscripts.tables": {
        "skeletons": ("names",), "effect": ("script", "names"), "by_table": ("table", "wood"),
    },
    "twigscripts.pairs": {
        "alike": ("one", "other"), "within": ("one", "other"), "commutes": ("one", "other"), "loses": ("script",),
        "stops_on": ("script",), "fate": ("script",),
    },
    "twigscripts.wishes": {
        "wish_error": ("value",), "is_so": ("wish", "wood"), "sure": ("ahead", "script", "behind"),
        "keeps": ("script", "wish"), "where": ("script", "wish"),
    },
    "twigscripts.sayings": {"holds": ("saying", "wood"), "told": ("script", "saying")},
    "twigscripts.short": {"lean": ("script",), "shortest": ("script",), "plan": ("ahead", "behind", "names")},
    "twigscripts.moves": {
        "least_moves": ("one", "other"), "fewest": ("one", "other"), "labels": ("one", "other"),
        "lets_labels": ("one", "other", "value"), "lets_fewest": ("one", "other", "moves", "value"),
    },
}
# Arguments that are passed by name, with the value that they have if they are not passed.
NAMED = {"effect": {"names": ()}, "plan": {"names": ()}}
ERRORS = {"TwigError": (), **LISTED}


class Interface(unittest.TestCase):

    def test_functions_stand_in_their_files(self):
        for file, listed in FUNCTIONS.items():
            for name, arguments in listed.items():
                found = getattr(importlib.import_module(file), name)
                self.assertTrue(inspect.isfunction(found), name)
                self.assertEqual(found.__module__, file, name)
                parameters = inspect.signature(found).parameters
                self.assertEqual(tuple(parameters), arguments, name)
                named = {key: told.default for key, told in parameters.items() if told.kind == told.KEYWORD_ONLY}
                self.assertEqual(named, NAMED.get(name, {}), name)

    def test_error_classes_stand_in_their_file(self):
        file = importlib.import_module("twigscripts.errors")
        for name, fields in ERRORS.items():
            found = getattr(file, name)
            self.assertTrue(inspect.isclass(found), name)
            self.assertEqual(found.__module__, "twigscripts.errors", name)
            if fields:
                self.assertEqual(tuple(inspect.signature(vars(found)["__init__"]).parameters), ("self",) + fields)
