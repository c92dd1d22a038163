"""[10]: wish_error, its places and words in the order told."""

import unittest

from tests.samples import ODD, nested_list
from twigscripts.wishes import wish_error

HERE = ("here", "a")
LEAVES = (("in", "a", "b"), ("ahead", "a", "b"), HERE, ("in", "a", "a"), ("here", "abcdefgh"))
ODDER = ODD + (nested_list(100), ["here", "a"], {"here": "a"}, ("here",), "a" * 9)


def deep_wish(levels, inside=HERE):
    """A wish with so many wishes around the one inside."""
    for _ in range(levels):
        inside = ("not", inside)
    return inside


def wide_wish(many):
    """A wish of so many wishes in all, nested at most five deep."""
    if many == 1:
        return HERE
    if many == 2:
        return ("not", HERE)
    half = (many - 1) // 2
    return ("and", wide_wish(half), wide_wish(many - 1 - half))


class Wishes(unittest.TestCase):

    def test_each_word(self):
        for leaf in LEAVES:
            for wish in (leaf, ("not", leaf), ("and", leaf, HERE), ("or", HERE, leaf)):
                self.assertIs(wish_error(wish), None, wish)

    def test_five_deep(self):
        for leaf in LEAVES:
            self.assertIs(wish_error(deep_wish(4, leaf)), None)
            self.assertEqual(wish_error(deep_wish(5, leaf)), ((), "deep"))
        self.assertIs(wish_error(("and", HERE, ("or", ("and", HERE, ("not", HERE)), HERE))), None)
        wish = ("and", HERE, ("or", ("and", HERE, ("not", ("not", HERE))), HERE))
        self.assertEqual(wish_error(wish), ((), "deep"))

    def test_deep_on_either_side(self):
        for wish in (("and", HERE, deep_wish(4)), ("or", deep_wish(4), HERE), ("not", ("and", deep_wish(3), HERE))):
            self.assertEqual(wish_error(wish), ((), "deep"))
        for wish in (("and", HERE, deep_wish(3)), ("or", deep_wish(3), HERE), ("not", ("and", deep_wish(2), HERE))):
            self.assertIs(wish_error(wish), None)

    def test_far_too_deep(self):
        for levels in (6, 20, 98):
            self.assertEqual(wish_error(deep_wish(levels)), ((), "deep"))

    def test_twelve_in_all(self):
        for many in range(1, 13):
            self.assertIs(wish_error(wide_wish(many)), None, many)
        for many in (13, 14, 20, 31):
            self.assertEqual(wish_error(wide_wish(many)), ((), "many"), many)

    def test_a_wish_that_stands_twice_counts_twice(self):
        two = ("not", HERE)
        six = ("and", ("or", two, two), HERE)
        self.assertIs(wish_error(six), None)
        self.assertEqual(wish_error(("and", six, six)), ((), "many"))

    def test_deep_comes_ahead_of_many(self):
        wish = wide_wish(12)
        self.assertEqual(wish_error(("and", wish, deep_wish(5))), ((), "deep"))
        self.assertEqual(wish_error(("and", wish, deep_wish(1))), ((), "many"))


class NoWishes(unittest.TestCase):

    def found(self, value, place, word):
        self.assertEqual(wish_error(value), (place, word), value)

    def test_no_tuple(self):
        for value in (None, True, False, 0, "", "here", "here(a)", [], ["here", "a"], {}, {"here": "a"},
                      nested_list(100)):
            self.found(value, (), "wish")
            self.found(("not", value), (0,), "wish")
            self.found(("and", HERE, value), (1,), "wish")

    def test_no_word(self):
        self.found((), (), "wish")
        for word in ODDER + ("Here", "here ", "root", "child", "behind", "a", "front", "nots"):
            for items in ((), ("a",), ("a", "b"), (HERE,), (HERE, HERE)):
                self.found((word,) + items, (), "wish")
                self.found(("or", (word,) + items, HERE), (0,), "wish")

    def test_wrong_numbers_of_items(self):
        for word, many, item in (("in", 2, "a"), ("ahead", 2, "a"), ("here", 1, "a"), ("and", 2, HERE),
                                 ("or", 2, HERE), ("not", 1, HERE)):
            for count in range(5):
                value = (word,) + (item,) * count
                self.assertEqual(wish_error(value), None if count == many else ((), "wish"), value)

    def test_what_is_no_name(self):
        for value in ODDER:
            self.found(("here", value), (), "name")
            for word in ("in", "ahead"):
                for names in ((value, "a"), ("a", value), (value, value)):
                    self.found((word,) + names, (), "name")
                    self.found(("and", HERE, ("not", (word,) + names)), (1, 0), "name")

    def test_a_name_is_no_wish_and_a_wish_is_no_name(self):
        self.found(("not", "a"), (0,), "wish")
        self.found(("and", "a", "b"), (0,), "wish")
        self.found(("here", HERE), (), "name")
        self.found(("in", HERE, HERE), (), "name")

    def test_odd_values_anywhere(self):
        for value in ODDER:
            self.found(value, (), "wish")
            self.found(("not", value), (0,), "wish")
            self.found(("and", value, HERE), (0,), "wish")
            self.found(("or", HERE, ("and", ("not", HERE), value)), (1, 1), "wish")

    def test_the_first_place_ascending(self):
        odd, unnamed = ("heres", "a"), ("here", "A")
        self.found(("and", odd, unnamed), (0,), "wish")
        self.found(("and", unnamed, odd), (0,), "name")
        self.found(("and", ("not", unnamed), odd), (0, 0), "name")
        self.found(("and", ("and", HERE, odd), unnamed), (0, 1), "wish")
        self.found(("or", ("and", ("not", ("not", unnamed)), odd), odd), (0, 0, 0, 0), "name")
        self.found(("or", HERE, ("and", odd, odd)), (1, 0), "wish")
        self.found(("or", ("not", HERE), ("and", HERE, unnamed)), (1, 1), "name")

    def test_wish_ahead_of_name_at_one_place(self):
        self.found(("here", "A", "b"), (), "wish")
        self.found(("in", "A"), (), "wish")
        self.found(("not", ("ahead", "A", None, 1)), (0,), "wish")

    def test_wish_and_name_come_ahead_of_deep_and_many(self):
        self.found(deep_wish(7, ("here", "A")), (0,) * 7, "name")
        self.found(deep_wish(9, ()), (0,) * 9, "wish")
        self.found(("and", deep_wish(7), ("here", None)), (1,), "name")
        self.found(("and", wide_wish(13), ("in", "a")), (1,), "wish")

    def test_places_are_integers(self):
        place, _ = wish_error(("and", HERE, ("not", None)))
        self.assertEqual([type(index) for index in place], [int, int])

    def test_arguments_stay_as_they_are(self):
        value = ["here", ["a"]]
        self.assertEqual([wish_error(value), wish_error(("here", value))], [((), "wish"), ((), "name")])
        self.assertEqual(value, ["here", ["a"]])
