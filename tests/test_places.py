"""[3]: names_of, parent_of, children_of, is_in, is_ahead and NoName."""

import unittest

from tests.samples import BUSY, ODD, V, W, Case, deep, few_woods, name_at, names_up_to, nested_list, paths, wide
from twigscripts.woods import children_of, is_ahead, is_in, names_of, parent_of

# Woods small enough to look at each pair of their nodes.
PAIRED = [wood for wood in few_woods() if len(paths(wood)) <= 50]


class NamesOf(unittest.TestCase):

    def test_order_of_first_ends(self):
        self.assertEqual(names_of(()), ())
        self.assertEqual(names_of(W), ("a", "b", "c", "d"))
        self.assertEqual(names_of(V), ("d", "c", "a", "b"))
        self.assertEqual(names_of(BUSY), ("m", "k", "b", "z", "a", "q", "y", "c", "x", "abcdefgh", "e", "d"))

    def test_each_of_a_few_woods(self):
        for wood in few_woods():
            self.assertEqual(names_of(wood), tuple(paths(wood)))

    def test_greater_results(self):
        self.assertEqual(names_of(deep(150)), tuple(names_up_to(150)))
        self.assertEqual(names_of(wide(400)), tuple(names_up_to(400)))


class ParentOf(Case):

    def test_the_document(self):
        self.assertEqual(parent_of(W, "c"), "a")

    def test_parents(self):
        self.assertEqual([parent_of(W, name) for name in "abcd"], [None, "a", "a", None])
        self.assertEqual([parent_of(BUSY, name) for name in "mkbzaqycxed"],
                         [None, None, "k", "b", "b", "a", "k", "k", "c", "abcdefgh", None])
        self.assertEqual(parent_of(deep(150), name_at(149)), name_at(148))

    def test_each_of_a_few_woods(self):
        for wood in PAIRED:
            names = {path: name for name, path in paths(wood).items()}
            for path, name in names.items():
                self.assertEqual(parent_of(wood, name), names.get(path[:-1]))

    def test_names_that_are_not_there(self):
        for name in ODD + ("e", "aa", "W", "+a", nested_list(100)):
            self.refused_name(name, parent_of, W, name)
            self.refused_name(name, parent_of, (), name)


class ChildrenOf(Case):

    def test_children_in_order(self):
        self.assertEqual([children_of(W, name) for name in "abcd"], [("b", "c"), (), (), ()])
        self.assertEqual(children_of(BUSY, "k"), ("b", "y", "c"))
        self.assertEqual(children_of(BUSY, "b"), ("z", "a"))
        self.assertEqual(children_of((("x", wide(399)),), "x"), tuple(names_up_to(399)))

    def test_none_asks_for_the_roots(self):
        self.assertEqual(children_of((), None), ())
        self.assertEqual(children_of(W, None), ("a", "d"))
        self.assertEqual(children_of(BUSY, None), ("m", "k", "abcdefgh", "d"))
        self.assertEqual(children_of(deep(150), None), (name_at(0),))

    def test_each_of_a_few_woods(self):
        for wood in PAIRED:
            found = paths(wood)
            for name, path in list(found.items()) + [(None, ())]:
                expected = tuple(child for child in found if found[child][:-1] == path)
                self.assertEqual(children_of(wood, name), expected)

    def test_names_that_are_not_there(self):
        for name in ODD[1:] + ("e", "aa", "W", "+a", nested_list(100)):
            self.refused_name(name, children_of, W, name)
            self.refused_name(name, children_of, (), name)


class Relations(Case):

    def test_the_document(self):
        self.assertIs(is_ahead(W, "b", "d"), True)

    def test_each_pair(self):
        for wood in PAIRED:
            found = paths(wood)
            for a in found:
                for b in found:
                    within = len(found[a]) > len(found[b]) and found[a][:len(found[b])] == found[b]
                    around = len(found[b]) > len(found[a]) and found[b][:len(found[a])] == found[a]
                    self.assertIs(is_in(wood, a, b), within, (wood, a, b))
                    self.assertIs(is_ahead(wood, a, b), found[a] < found[b] and not around, (wood, a, b))

    def test_exactly_one_of_four_holds(self):
        for wood in PAIRED:
            for a in names_of(wood):
                for b in names_of(wood):
                    found = [is_in(wood, a, b), is_in(wood, b, a), is_ahead(wood, a, b), is_ahead(wood, b, a)]
                    self.assertEqual(sum(found), 0 if a == b else 1)

    def test_a_name_and_itself(self):
        for name in names_of(BUSY):
            self.assertIs(is_in(BUSY, name, name), False)
            self.assertIs(is_ahead(BUSY, name, name), False)

    def test_greater_results(self):
        self.assertIs(is_in(deep(150), name_at(149), name_at(0)), True)
        self.assertIs(is_in(deep(150), name_at(0), name_at(149)), False)
        self.assertIs(is_ahead(wide(400), name_at(0), name_at(399)), True)
        self.assertIs(is_ahead(wide(400), name_at(399), name_at(0)), False)

    def test_names_that_are_not_there(self):
        for call in (is_in, is_ahead):
            for name in ODD + ("e", "aa", "W", nested_list(100)):
                self.refused_name(name, call, W, name, "a")
                self.refused_name(name, call, W, "a", name)
                self.refused_name(name, call, W, name, name)
                self.refused_name(name, call, (), name, "a")

    def test_of_two_the_first_one(self):
        odd = (["x"], {"y": []}, None, True, "u", "A")
        for call in (is_in, is_ahead):
            for first in odd:
                for second in odd:
                    self.refused_name(first, call, W, first, second)


class Conventions(Case):

    def test_arguments_stay_as_they_are(self):
        name = [["a"], {"b": []}]
        for call in (parent_of, children_of):
            self.refused_name(name, call, W, name)
        for call in (is_in, is_ahead):
            self.refused_name(name, call, W, name, name)
        self.assertEqual(name, [["a"], {"b": []}])

    def test_equal_calls_give_equal_results(self):
        for _ in range(2):
            self.assertEqual([parent_of(V, "c"), children_of(V, "a"), is_in(V, "b", "a"), names_of(V)],
                             ["d", ("b",), True, ("d", "c", "a", "b")])

    def test_names_are_told_apart_by_what_they_say(self):
        name = "".join(["a", "b"])
        self.assertIs(parent_of((("ab", ()),), name), None)
        self.refused_name(name, parent_of, W, name)
