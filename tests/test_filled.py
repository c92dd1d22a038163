"""[4] and [1]: filled and BadGaps."""

import unittest
from itertools import combinations

from tests.samples import (
    BUSY, ODD, W, Case, deep, deep_row, few_woods, names_up_to, nested_list, paths, plain_row, wide,
)
from twigscripts.errors import BadGaps
from twigscripts.woods import filled, gaps_of, skeleton_of

# Its row is +c -c +d -d, so it has five gaps.
C_D = (("c", ()), ("d", ()))
X = ("x", ())


def empty(wood):
    """Nothing for each gap of all nodes of the wood."""
    return ((),) * (2 * len(paths(wood)) + 1)


def with_gap(wood, place, gap):
    """Nothing for each gap but one."""
    gaps = list(empty(wood))
    gaps[place] = gap
    return tuple(gaps)


class Filled(unittest.TestCase):

    def there_and_back(self, wood, names):
        self.assertEqual(filled(skeleton_of(wood, names), gaps_of(wood, names)), wood, names)

    def test_the_gaps_of_a_wood_give_it_back(self):
        for wood in few_woods():
            if len(paths(wood)) <= 20:
                for many in (0, 1, 2, 3, 4):
                    for names in combinations(paths(wood), many):
                        self.there_and_back(wood, names)
        for many in range(13):
            self.there_and_back(BUSY, tuple(paths(BUSY))[:many])

    def test_deep_and_wide_woods(self):
        for wood in (deep(40), deep(99), deep(100), wide(120), wide(400), (("x", wide(399)),)):
            names = tuple(paths(wood))
            for chosen in ((), names[:1], names[-2:], names[::2], names[1::2], names):
                self.there_and_back(wood, chosen)

    def test_the_document(self):
        self.assertEqual(filled(C_D, (("+a", "+b", "-b"), (), ("-a",), (), ())), W)

    def test_nothing_is_put_in(self):
        for wood in few_woods():
            if wood != deep(150):
                self.assertEqual(filled(wood, empty(wood)), wood)

    def test_the_empty_wood(self):
        self.assertEqual(filled((), ((),)), ())
        self.assertEqual(filled((), (plain_row(W),)), W)
        self.assertEqual(filled((), (deep_row(100),)), deep(100))
        self.assertEqual(filled((), (plain_row(wide(400)),)), wide(400))

    def test_a_leaf_in_each_gap(self):
        c, d = C_D
        expected = ((X, c, d), (("c", (X,)), d), (c, X, d), (c, ("d", (X,))), (c, d, X))
        for place, wood in enumerate(expected):
            self.assertEqual(filled(C_D, with_gap(C_D, place, ("+x", "-x"))), wood)

    def test_a_node_around_others(self):
        c, d = C_D
        expected = {(0, 2): (("x", (c,)), d), (0, 4): (("x", C_D),), (2, 4): (c, ("x", (d,)))}
        for (first, last), wood in expected.items():
            gaps = list(empty(C_D))
            gaps[first] = ("+x",)
            gaps[last] = ("-x",)
            self.assertEqual(filled(C_D, tuple(gaps)), wood)

    def test_equal_calls_give_equal_results(self):
        gaps = [("+x",), (), ("+y", "-y", "-x"), (), ()]
        for _ in range(2):
            self.assertEqual(filled(C_D, tuple(gaps)), (("x", (("c", ()), ("y", ()))), ("d", ())))


class Refused(Case):

    def refuse(self, wood, value):
        self.refused(BadGaps, filled, wood, value)

    def test_what_is_no_tuple(self):
        for value in (None, True, False, 0, 1, "", "abcde", [], [()] * 5, {}, dict.fromkeys(range(5)),
                      nested_list(100)):
            self.refuse(C_D, value)
        for value in ([()], [[]], "+", {"+": ()}):
            self.refuse((), value)

    def test_a_gap_that_is_no_tuple(self):
        for value in (None, True, False, 0, "", "+x", "+x-x", [], ["+x", "-x"], {}, {"+x": "-x"}):
            for place in range(5):
                self.refuse(C_D, with_gap(C_D, place, value))
            self.refuse((), (value,))

    def test_too_few_or_too_many(self):
        self.refuse((), ())
        self.refuse((), ((), ()))
        for many in (0, 1, 2, 3, 4, 6, 9):
            self.refuse(C_D, ((),) * many)
        self.refuse(C_D, (("+x", "-x"),) + ((),) * 3)
        self.refuse(C_D, ((),) * 5 + (("+x", "-x"),))
        self.refuse(C_D, gaps_of(W, ("c",)))

    def test_items_that_are_no_ends(self):
        for value in ODD + ("+", "-", "x", "+X", "+abcdefghi"):
            for place in range(5):
                if value != "-a" and value != "+a":
                    self.refuse(C_D, with_gap(C_D, place, (value,)))
                    self.refuse(C_D, with_gap(C_D, place, ("+x", value, "-x")))

    def test_the_whole_is_no_row(self):
        for place in range(5):
            for gap in (("+x",), ("-x",), ("-x", "+x"), ("+x", "-x", "+x", "-x"), ("+x", "+y", "-x", "-y")):
                self.refuse(C_D, with_gap(C_D, place, gap))
            for gap in (("+c", "-c"), ("+d", "-d"), ("-c",), ("+d",)):
                self.refuse(C_D, with_gap(C_D, place, gap))
        self.refuse(C_D, (("+x",), ("-x",), (), (), ()))
        self.refuse(C_D, ((), ("+x",), ("-x",), (), ()))
        self.refuse(C_D, (("+x", "-x"), ("+x", "-x"), (), (), ()))

    def test_more_than_100_open_at_once(self):
        self.refuse((), (deep_row(101),))
        self.assertEqual(filled((("x", ()),), with_gap((X,), 1, deep_row(99))), (("x", deep(99)),))
        self.refuse((X,), with_gap((X,), 1, deep_row(100)))
        for many in (101, 150):
            self.refuse(deep(many), empty(deep(many)))
        self.refuse(deep(100), with_gap(deep(100), 100, ("+x", "-x")))
        self.refuse(skeleton_of(deep(101), tuple(names_up_to(50))), gaps_of(deep(101), tuple(names_up_to(50))))

    def test_arguments_stay_as_they_are(self):
        value = [["+x"], ["-x"], {"a": []}]
        self.refuse((X,), value)
        self.refuse((X,), tuple(value))
        self.refuse((X,), ((value,), (), ()))
        self.assertEqual(value, [["+x"], ["-x"], {"a": []}])
