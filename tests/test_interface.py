"""The interface: names and arguments as written, each defined in its file."""

import importlib
import inspect
import unittest

from tests.test_errors import LISTED

FUNCTIONS = {
    "twigscripts.woods": {
        "wood_error": ("value",), "row_of": ("wood",), "wood_of": ("value",), "names_of": ("wood",),
        "parent_of": ("wood", "name"), "children_of": ("wood", "name"), "is_in": ("wood", "a", "b"),
        "is_ahead": ("wood", "a", "b"), "skeleton_of": ("wood", "names"), "gaps_of": ("wood", "names"),
        "filled": ("wood", "value"),
    },
    "twigscripts.deeds": {
        "deed_error": ("value",), "script_error": ("value",), "old_names": ("script",), "new_names": ("script",),
        "do_deed": ("wood", "deed"), "do_script": ("wood", "script"),
    },
    "twigscripts.tables": {
        "skeletons": ("names",), "effect": ("script", "names"), "by_table": ("table", "wood"),
    },
    "twigscripts.pairs": {
        "alike": ("one", "other"), "within": ("one", "other"), "commutes": ("one", "other"), "loses": ("script",),
        "stops_on": ("script",), "fate": ("script",),
    },
    "twigscripts.wishes": {
        "wish_error": ("value",), "is_so": ("wish", "wood"), "sure": ("ahead", "script", "behind"),
        "keeps": ("script", "wish"), "where": ("script", "wish"),
    },
    "twigscripts.sayings": {"holds": ("saying", "wood"), "told": ("script", "saying")},
    "twigscripts.short": {"lean": ("script",), "shortest": ("script",), "plan": ("ahead", "behind", "names")},
    "twigscripts.moves": {
        "least_moves": ("one", "other"), "fewest": ("one", "other"), "labels": ("one", "other"),
        "lets_labels": ("one", "other", "value"), "lets_fewest": ("one", "other", "moves", "value"),
    },
    "twigscripts.texts": {
        "wood_text": ("wood",), "script_text": ("script",), "wish_text": ("wish",), "read_wood": ("value",),
        "read_script": ("value",), "read_wish": ("value",),
    },
}
# For each class: the arguments of its methods, without self, and its properties.
CLASSES = {
    "twigscripts.scripts": {
        "Script": ({
            "__init__": ("deeds",), "parts": ("other",), "is_within": ("other",), "__add__": ("other",),
            "__radd__": ("other",), "__mul__": ("other",), "__rmul__": ("other",), "__len__": (),
            "__contains__": ("value",), "__eq__": ("other",), "__call__": ("wood",), "__str__": (),
        }, ("deeds", "old", "new")),
    },
    "twigscripts.gardens": {
        "Garden": ({
            "__init__": ("wood",), "want": ("value",), "do": ("deed",), "run": ("script",), "names": (),
            "has": ("value",), "undo": (), "edits": (), "wood_before": ("version",), "copy": (), "together": ("work",),
            "__iadd__": ("other",), "__getitem__": ("name",), "__setitem__": ("name", "parent"), "__len__": (),
            "__eq__": ("other",), "__str__": (),
        }, ("wood", "version", "wish")),
        "CarefulGarden": ({}, ()), "LoggedGarden": ({}, ("log",)), "CarefulLoggedGarden": ({}, ()),
    },
    "twigscripts.console": {"Console": ({"__init__": ("garden",), "say": ("line",)}, ("history",))},
}
# Arguments that are passed by name, with the value that they have if they are not passed.
NAMED = {"effect": {"names": ()}, "plan": {"names": ()}}
ERRORS = {"TwigError": (), **LISTED}


class Interface(unittest.TestCase):

    def test_functions_stand_in_their_files(self):
        for file, listed in FUNCTIONS.items():
            for name, arguments in listed.items():
                found = getattr(importlib.import_module(file), name)
                self.assertTrue(inspect.isfunction(found), name)
                self.assertEqual(found.__module__, file, name)
                parameters = inspect.signature(found).parameters
                self.assertEqual(tuple(parameters), arguments, name)
                named = {key: told.default for key, told in parameters.items() if told.kind == told.KEYWORD_ONLY}
                self.assertEqual(named, NAMED.get(name, {}), name)

    def test_classes_stand_in_their_files_with_their_methods(self):
        for file, listed in CLASSES.items():
            for name, (methods, properties) in listed.items():
                found = getattr(importlib.import_module(file), name)
                self.assertTrue(inspect.isclass(found), name)
                self.assertEqual(found.__module__, file, name)
                for method, arguments in methods.items():
                    told = tuple(inspect.signature(vars(found)[method]).parameters)
                    self.assertEqual(told, ("self",) + arguments, (name, method))
                for word in properties:
                    self.assertIsInstance(vars(found)[word], property, (name, word))
                    self.assertIsNone(vars(found)[word].fset, (name, word))

    def test_constructors_and_class_methods(self):
        scripts = importlib.import_module("twigscripts.scripts")
        gardens = importlib.import_module("twigscripts.gardens")
        self.assertEqual(inspect.signature(scripts.Script).parameters["deeds"].default, ())
        self.assertEqual(inspect.signature(gardens.Garden).parameters["wood"].default, ())
        self.assertIsInstance(vars(scripts.Script)["of_text"], classmethod)
        self.assertEqual(tuple(inspect.signature(scripts.Script.of_text).parameters), ("value",))

    def test_error_classes_stand_in_their_file(self):
        file = importlib.import_module("twigscripts.errors")
        for name, fields in ERRORS.items():
            found = getattr(file, name)
            self.assertTrue(inspect.isclass(found), name)
            self.assertEqual(found.__module__, "twigscripts.errors", name)
            if fields:
                self.assertEqual(tuple(inspect.signature(vars(found)["__init__"]).parameters), ("self",) + fields)
