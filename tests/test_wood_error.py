"""[3]: wood_error."""

import unittest

from tests.samples import BUSY, ODD, V, W, deep, few_woods, name_at, nested_list, wide
from twigscripts.woods import wood_error

NO_TUPLES = (
    None, True, False, 0, 1, -1, 10 ** 39, "", "a", "a" * 3000, [], [("a", ())], {}, {"a": ()}, nested_list(100),
)
NO_TREES = NO_TUPLES + ((), ("b",), ("b", (), ()), ("b", (), (), ()), ["b", ()])


def with_tree(tree):
    """Woods with the tree first, last, between others, alone and in others."""
    return (
        (tree,), (tree, ("x", ())), (("x", ()), tree), (("x", ()), tree, ("y", ())),
        (("x", (tree,)),), (("x", (("y", ()), tree)), ("z", ())), (("x", (("y", (tree, ("u", ()))),)), ("v", ())),
    )


class WoodError(unittest.TestCase):

    def test_woods(self):
        for wood in (W, V, BUSY, (), wide(1), wide(120), deep(40), (deep(39)[0], ("x", W))):
            self.assertIsNone(wood_error(wood), wood)
        for wood in few_woods()[6:]:
            self.assertIsNone(wood_error(wood), wood)

    def test_what_is_to_be_a_wood_is_no_tuple(self):
        for value in NO_TUPLES:
            self.assertEqual(wood_error(value), "wood", value)
            for wood in with_tree(("b", value)):
                self.assertEqual(wood_error(wood), "wood", value)

    def test_what_is_to_be_a_tree_is_no_pair(self):
        for value in NO_TREES:
            for wood in with_tree(value):
                self.assertEqual(wood_error(wood), "tree", value)

    def test_its_name_is_none(self):
        for value in ODD:
            for wood in with_tree((value, ())):
                self.assertEqual(wood_error(wood), "name", value)

    def test_a_name_that_stood_already(self):
        for wood in with_tree(("b", (("b", ()),))) + with_tree(("a", (("b", ()), ("b", ())))):
            self.assertEqual(wood_error(wood), "again", wood)
        for wood in with_tree(("x", ()))[1:]:
            self.assertEqual(wood_error(wood), "again", wood)
        for wood in ((("b", (("c", ()),)), ("c", ())), (("b", (("c", ()),)), ("d", (("c", ()),))), W + W[1:], W + W):
            self.assertEqual(wood_error(wood), "again", wood)

    def test_limit_of_names(self):
        self.assertEqual([wood_error(wide(many)) for many in (119, 120, 121, 266)], [None, None, "many", "many"])
        self.assertEqual(wood_error((("x", wide(119)),)), None)
        self.assertEqual(wood_error((("x", wide(120)),)), "many")

    def test_limit_of_depth(self):
        found = [wood_error(deep(many)) for many in (39, 40, 41, 49, 100, 120)]
        self.assertEqual(found, [None, None, "deep", "deep", "deep", "deep"])
        self.assertEqual(wood_error((("x", ()),) + deep(41) + (("y", ()),)), "deep")
        self.assertEqual(wood_error((("x", deep(39)), ("y", ()))), None)
        self.assertEqual(wood_error((("x", deep(40)), ("y", ()))), "deep")

    def test_results_that_are_greater(self):
        self.assertEqual(wood_error(deep(150)), "many")
        self.assertEqual(wood_error(wide(400)), "many")

    def test_many_comes_ahead_of_deep(self):
        self.assertEqual(wood_error(deep(121)), "many")
        self.assertEqual(wood_error(deep(41, tuple((name_at(k), ()) for k in range(41, 121)))), "many")
        self.assertEqual(wood_error(deep(41, tuple((name_at(k), ()) for k in range(41, 120)))), "deep")

    def test_limits_come_behind_all_else(self):
        for odd, word in (("x", "tree"), (("A", ()), "name"), ((name_at(0), ()), "again"), (("x", []), "wood")):
            self.assertEqual(wood_error(wide(121) + (odd,)), word)
            self.assertEqual(wood_error(deep(41) + (odd,)), word)
            self.assertEqual(wood_error(deep(41, (odd,))), word)
            self.assertEqual(wood_error(deep(140, (odd,))), word)

    def test_the_first_in_the_order_of_the_row(self):
        odd = ((["x"], "tree"), (("A", ()), "name"), (("x", ()), "again"), (("y", None), "wood"))
        for first, word in odd:
            for second, _ in odd:
                for value in (
                    (("x", ()), first, second), (("x", (first,)), second), (("x", (("u", (first, second)),)), second),
                    (("x", (("u", (first,)),)), second), (("x", ()), ("u", (first,)), ("v", (second,))),
                ):
                    self.assertEqual(wood_error(value), word, value)

    def test_within_one_tree_its_name_comes_first(self):
        self.assertEqual(wood_error((("A", None),)), "name")
        self.assertEqual(wood_error((("A", (("B", ()), 7)),)), "name")
        self.assertEqual(wood_error((("a", ()), ("a", None))), "again")
        self.assertEqual(wood_error((("a", (("a", 5), 5)),)), "again")
        self.assertEqual(wood_error((("A", None, ()),)), "tree")

    def test_nested_values(self):
        value = ()
        for _ in range(99):
            value = (value,)
        self.assertEqual(wood_error(value), "tree")
        self.assertEqual(wood_error((("a", value),)), "tree")
        self.assertEqual(wood_error(((value, ()),)), "name")
