"""[3]: row_of, wood_of and BadRow."""

import unittest

from tests.samples import BUSY, ODD, V, W, Case, deep, deep_row, few_woods, name_at, nested_list, plain_row, wide
from twigscripts.woods import row_of, wood_of

W_ROW = ("+a", "+b", "-b", "+c", "-c", "-a", "+d", "-d")
NO_ENDS = ODD + (
    "a", "+", "-", "++a", "+-a", "--a", "+A", "-A", "+abcdefghi", "+a ", " +a", "+ a", "+a1", "a+", "+a-a", "\u2212a",
    ("+a",), ["+a"], {"+a": 1}, "*a", "=a", "+" + "a" * 2999,
)


def free(value):
    """Whether value cannot stand for an end even ahead of all others."""
    return value not in ("+a", "-a")


class RowOf(unittest.TestCase):

    def test_the_row_of_the_document(self):
        self.assertEqual(row_of(W), W_ROW)

    def test_rows(self):
        self.assertEqual(row_of(()), ())
        self.assertEqual(row_of((("x", ()),)), ("+x", "-x"))
        self.assertEqual(row_of(V), ("+d", "+c", "-c", "-d", "+a", "+b", "-b", "-a"))
        self.assertEqual(row_of(deep(100)), deep_row(100))
        for wood in few_woods():
            self.assertEqual(row_of(wood), plain_row(wood))

    def test_greater_results(self):
        self.assertEqual(row_of(deep(150)), deep_row(150))
        self.assertEqual(row_of(wide(400)), plain_row(wide(400)))


class WoodOf(Case):

    def test_there_and_back(self):
        for wood in few_woods():
            if wood != deep(150):
                self.assertEqual(wood_of(row_of(wood)), wood)

    def test_more_names_than_a_wood_that_is_passed_may_have(self):
        for wood in (wide(121), wide(400), deep(41), deep(100) + (("x", ()),)):
            self.assertEqual(wood_of(plain_row(wood)), wood)
        self.assertEqual(wood_of(plain_row((("x", wide(399)),))), (("x", wide(399)),))

    def test_no_tuple(self):
        for value in (None, True, False, 0, 7, "", "+a", "+a-a", [], ["+a", "-a"], {}, {"+a": "-a"}, nested_list(100)):
            self.refused_row(None, value)

    def test_no_end_at_any_place(self):
        for value in filter(free, NO_ENDS):
            for place in range(len(W_ROW) + 1):
                self.refused_row(place, W_ROW[:place] + (value,) + W_ROW[place:])
                self.refused_row(place, W_ROW[:place] + (value,))
                self.refused_row(place, W_ROW[:place] + (value, value))

    def test_a_name_again(self):
        for place in range(1, len(W_ROW) + 1):
            self.refused_row(place, W_ROW[:place] + ("+a",) + W_ROW[place:])
        self.refused_row(2, ("+a", "-a", "+a", "-a"))
        self.refused_row(1, ("+a", "+a", "-a", "-a"))
        self.refused_row(4, ("+a", "+b", "-b", "-a", "+b", "-b"))
        self.refused_row(3, ("+a", "+b", "-b", "-b", "-a"))

    def test_an_end_that_closes_another_node(self):
        self.refused_row(2, ("+a", "+b", "-a"))
        self.refused_row(2, ("+a", "+b", "-a", "-b"))
        self.refused_row(0, ("-a",))
        self.refused_row(0, ("-a", "+a"))
        self.refused_row(1, ("+a", "-b", "-a"))
        self.refused_row(2, ("+a", "-a", "-a"))
        self.refused_row(8, W_ROW + ("-x",))
        self.refused_row(5, ("+ab", "+a", "-a", "+b", "-b", "-a"))

    def test_the_first_wrong_place(self):
        self.refused_row(2, ("+a", "+b", "-a", None, "-a"))
        self.refused_row(1, ("+a", None, "+a"))
        self.refused_row(1, ("+a", "+a"))

    def test_more_has_to_follow(self):
        self.refused_row(1, ("+a",))
        self.refused_row(2, ("+a", "+b"))
        self.refused_row(3, ("+a", "+b", "-b"))
        self.refused_row(5, ("+a", "-a", "+b", "+c", "-c"))
        for many in (1, 99, 100):
            self.refused_row(many, deep_row(many)[:many])
            self.refused_row(2 * many - 1, deep_row(many)[:-1])

    def test_at_most_100_nodes_are_open_at_once(self):
        self.assertEqual(wood_of(deep_row(100)), deep(100))
        for many in (101, 102, 150, 400):
            self.refused_row(100, deep_row(many))
        self.refused_row(102, ("+x", "-x") + deep_row(101))
        self.refused_row(100, deep_row(100)[:100] + ("+x",))
        self.refused_row(101, deep_row(100)[:101] + ("-x",))
        open_again = deep_row(100)[:101] + ("+x", "-x") + deep_row(100)[101:]
        self.assertEqual(wood_of(open_again), deep(99, ((name_at(99), ()), ("x", ()))))
        self.refused_row(102, deep_row(100)[:101] + ("+x", "+y", "-y", "-x") + deep_row(100)[101:])

    def test_equal_calls_give_equal_results(self):
        row = plain_row(BUSY)
        self.assertEqual(wood_of(row), wood_of(tuple(list(row))))
        self.assertEqual(row, plain_row(BUSY))

    def test_lists_and_dicts_that_are_refused_stay_as_they_are(self):
        value = ["+a", "-a"]
        inner = {"+a": ["-a"]}
        self.refused_row(None, value)
        self.refused_row(1, ("+a", inner))
        self.assertEqual((value, inner), (["+a", "-a"], {"+a": ["-a"]}))
