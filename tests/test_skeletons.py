"""[4]: skeleton_of, gaps_of, BadNames, and NoName behind it."""

import unittest
from itertools import combinations, permutations

from tests.samples import BUSY, ODD, V, W, Case, deep, few_woods, names_up_to, nested_list, paths, plain_row, wide
from twigscripts.errors import BadNames
from twigscripts.woods import gaps_of, skeleton_of

SMALL = [wood for wood in few_woods() if len(paths(wood)) <= 4] + [W, V]


def choices(wood):
    """All tuples of unlike names of a small wood, in any order."""
    names = list(paths(wood))
    return [chosen for many in range(len(names) + 1) for chosen in permutations(names, many)]


def plain_skeleton(wood, names):
    found = ()
    for name, inside in wood:
        below = plain_skeleton(inside, names)
        found += ((name, below),) if name in names else below
    return found


def plain_gaps(wood, names):
    """The gaps by the places of the ends that part them."""
    row = plain_row(wood)
    places = [-1] + [place for place, end in enumerate(row) if end[1:] in names] + [len(row)]
    return tuple(row[begin + 1:end] for begin, end in zip(places, places[1:]))


class Skeletons(unittest.TestCase):

    def test_the_document(self):
        self.assertEqual(skeleton_of(W, ("d", "c")), (("c", ()), ("d", ())))
        self.assertEqual(gaps_of(W, ("d", "c")), (("+a", "+b", "-b"), (), ("-a",), (), ()))

    def test_no_name(self):
        for wood in few_woods():
            self.assertEqual(skeleton_of(wood, ()), ())
            self.assertEqual(gaps_of(wood, ()), (plain_row(wood),))

    def test_all_names(self):
        for wood in few_woods():
            names = tuple(paths(wood))
            for chosen in (names, names[::-1], tuple(sorted(names))):
                self.assertEqual(skeleton_of(wood, chosen), wood)
                self.assertEqual(gaps_of(wood, chosen), ((),) * (2 * len(names) + 1))

    def test_some_names_in_any_order(self):
        for wood in SMALL:
            for names in choices(wood):
                self.assertEqual(skeleton_of(wood, names), plain_skeleton(wood, names))
                self.assertEqual(gaps_of(wood, names), plain_gaps(wood, names))
        for names in combinations(tuple(paths(BUSY)), 3):
            self.assertEqual(skeleton_of(BUSY, names), plain_skeleton(BUSY, names))
            self.assertEqual(gaps_of(BUSY, names), plain_gaps(BUSY, names))

    def test_results_that_are_greater(self):
        names = tuple(names_up_to(150))
        self.assertEqual(skeleton_of(deep(150), names[:120]), deep(120))
        self.assertEqual(gaps_of(deep(150), names[:1]), ((), plain_row(deep(150))[1:-1], ()))
        self.assertEqual(skeleton_of(wide(400), tuple(names_up_to(400))), wide(400))
        self.assertEqual(gaps_of(wide(400), tuple(names_up_to(400))), ((),) * 801)

    def test_equal_calls_give_equal_results(self):
        for _ in range(2):
            self.assertEqual(skeleton_of(V, ("b", "d")), (("d", ()), ("b", ())))
            self.assertEqual(gaps_of(V, ("b", "d")), ((), ("+c", "-c"), ("+a",), (), ("-a",)))


class Refused(Case):

    def test_what_is_no_tuple(self):
        for value in (None, True, False, 0, "", "a", "ab", [], ["a"], {}, {"a": 1}, nested_list(100)):
            for call in (skeleton_of, gaps_of):
                self.refused(BadNames, call, W, value)

    def test_the_same_name_twice(self):
        for names in (("a", "a"), ("a", "b", "a"), ("d", "c", "c"), ("x", "x"), ("a", "x", "x")):
            for call in (skeleton_of, gaps_of):
                self.refused(BadNames, call, W, names)

    def test_odd_items(self):
        for value in ODD:
            for names in ((value,), ("a", value), (value, "a"), ("a", value, "b"), ("x", value), (value, value)):
                for call in (skeleton_of, gaps_of):
                    self.refused(BadNames, call, W, names)
                    self.refused(BadNames, call, (), names)

    def test_the_first_name_that_is_not_there(self):
        rows = ((("x",), 0), (("a", "x"), 1), (("x", "a", "y"), 0), (("d", "y", "c", "x"), 1), (("a", "b", "aa"), 2))
        for names, place in rows:
            for call in (skeleton_of, gaps_of):
                self.refused_name(names[place], call, W, names)

    def test_no_name_is_in_the_empty_wood(self):
        for call in (skeleton_of, gaps_of):
            self.refused_name("b", call, (), ("b", "a"))

    def test_arguments_stay_as_they_are(self):
        names = ["a", ["b"]]
        for call in (skeleton_of, gaps_of):
            self.refused(BadNames, call, W, names)
            self.refused(BadNames, call, W, ("a", names))
        self.assertEqual(names, ["a", ["b"]])
