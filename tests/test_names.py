"""[2]: what a name is."""

import unittest

from tests.samples import ODD
from twigscripts.names import are_unlike_names, free_names, is_name


class Names(unittest.TestCase):

    def test_one_to_eight_letters(self):
        for size in range(1, 9):
            for letter in "amz":
                self.assertIs(is_name(letter * size), True)

    def test_every_letter(self):
        for code in range(128):
            expected = ord("a") <= code <= ord("z")
            self.assertIs(is_name(chr(code)), expected, code)
            self.assertIs(is_name("b" + chr(code) + "b"), expected, code)

    def test_other_alphabets_have_no_names(self):
        for text in ("\u00e4", "a\u00e9", "\u03b1", "\uff41"):
            self.assertIs(is_name(text), False, text)

    def test_odd_values(self):
        for value in ODD:
            self.assertIs(is_name(value), False, value)

    def test_unlike_names(self):
        for value in ((), ("a",), ("b", "a"), ("a", "aa", "aaa")):
            self.assertIs(are_unlike_names(value), True, value)

    def test_names_again_and_odd_values(self):
        for value in (["a"], [], "a", None, True, 0, {}, {"a": 1}, ("a", "a"), ("a", "b", "a")):
            self.assertIs(are_unlike_names(value), False, value)
        for value in ODD:
            self.assertIs(are_unlike_names(("a", value)), False, value)

    def test_free_names(self):
        self.assertEqual(len(set(free_names(()))), 26)
        for taken in ((), ("x",), ("x", "y", "z", "a", "xy"), tuple("abcdefghij"), ["x", "abc"]):
            found = free_names(taken)
            self.assertTrue(found)
            for name in found:
                self.assertIs(is_name(name), True)
                self.assertNotIn(name, taken)
