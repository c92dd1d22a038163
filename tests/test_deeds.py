"""[5]: the thirteen deeds, what each does, and when each stops."""

import unittest

from tests.other_ways import MOVES, TWO_OLD, WORDS, all_deeds, plain_deed
from tests.samples import BUSY, V, W, Case, all_woods, deep, few_woods, name_at, names_up_to, paths, plain_row, wide
from twigscripts.deeds import do_deed
from twigscripts.errors import Stopped
from twigscripts.woods import wood_error, wood_of

# a and d are roots, e lies behind c in b, and so on: each kind of place is there.
PLACES = (
    ("a", (("b", (("c", ()), ("e", (("f", ()),)))), ("g", ()), ("h", (("i", ()),)))),
    ("d", (("j", ()),)),
    ("k", ()),
)
SMALL = [wood for wood in few_woods() if len(paths(wood)) <= 3] + all_woods("abcd")[::5]


class Doing(Case):

    def same(self, wood, deed):
        expected = plain_deed(wood, deed)
        if isinstance(expected, str):
            error = self.refused(Stopped, do_deed, wood, deed)
            self.assertEqual((error.index, error.word), (0, expected), (wood, deed))
        else:
            self.assertEqual(do_deed(wood, deed), expected, (wood, deed))

    def test_all_pairs_of_names_of_small_woods(self):
        for wood in SMALL:
            for deed in all_deeds(sorted(paths(wood)) + ["u", "v"]):
                self.same(wood, deed)

    def test_all_pairs_of_names_of_greater_woods(self):
        for wood in (W, V, BUSY, PLACES):
            for deed in all_deeds(sorted(paths(wood)) + ["u", "v"]):
                self.same(wood, deed)

    def test_results_greater_than_a_wood_that_is_passed(self):
        for wood in (wide(120), wide(399), deep(100), deep(149), deep(40, (("x", ()), ("y", ())))):
            names = list(paths(wood))
            names = names[:2] + names[-2:] + [names[len(names) // 2], "u"]
            for deed in all_deeds(names):
                self.same(wood, deed)

    def test_the_document(self):
        self.assertEqual(do_deed(W, ("ahead", "d", "c")), (("a", (("b", ()), ("d", ()), ("c", ()))),))


class EachDeed(unittest.TestCase):
    """What stands in the table of the document, by hand."""

    ROW = ("+a", "+b", "+c", "-c", "+d", "-d", "-b", "-a", "+e", "+f", "-f", "-e")

    def does(self, deed, text):
        row = plain_row(do_deed(wood_of(self.ROW), deed))
        self.assertEqual(" ".join(row), text, deed)

    def test_moves(self):
        self.does(("first", "e", "b"), "+a +b +e +f -f -e +c -c +d -d -b -a")
        self.does(("last", "e", "b"), "+a +b +c -c +d -d +e +f -f -e -b -a")
        self.does(("ahead", "e", "d"), "+a +b +c -c +e +f -f -e +d -d -b -a")
        self.does(("behind", "e", "c"), "+a +b +c -c +e +f -f -e +d -d -b -a")
        self.does(("front", "d"), "+d -d +a +b +c -c -b -a +e +f -f -e")
        self.does(("back", "b"), "+a -a +e +f -f -e +b +c -c +d -d -b")

    def test_moves_up_and_down_the_row(self):
        self.does(("first", "b", "e"), "+a -a +e +b +c -c +d -d -b +f -f -e")
        self.does(("last", "b", "e"), "+a -a +e +f -f +b +c -c +d -d -b -e")
        self.does(("ahead", "c", "e"), "+a +b +d -d -b -a +c -c +e +f -f -e")
        self.does(("behind", "c", "a"), "+a +b +d -d -b -a +c -c +e +f -f -e")
        self.does(("ahead", "c", "a"), "+c -c +a +b +d -d -b -a +e +f -f -e")

    def test_moves_to_where_a_node_is_already(self):
        same = " ".join(self.ROW)
        for deed in (("first", "c", "b"), ("last", "d", "b"), ("ahead", "c", "d"), ("behind", "d", "c"),
                     ("front", "a"), ("back", "e"), ("turn", "c", "c"), ("behind", "e", "a")):
            self.does(deed, same)

    def test_swap_and_turn(self):
        self.does(("swap", "b", "e"), "+a +e +f -f -e -a +b +c -c +d -d -b")
        self.does(("swap", "e", "b"), "+a +e +f -f -e -a +b +c -c +d -d -b")
        self.does(("swap", "c", "d"), "+a +b +d -d +c -c -b -a +e +f -f -e")
        self.does(("turn", "b", "e"), "+a +e +c -c +d -d -e -a +b +f -f -b")
        self.does(("turn", "a", "c"), "+c +b +a -a +d -d -b -c +e +f -f -e")

    def test_lift_cut_and_pour(self):
        self.does(("lift", "b"), "+a +c -c +d -d -a +e +f -f -e")
        self.does(("lift", "f"), "+a +b +c -c +d -d -b -a +e -e")
        self.does(("cut", "b"), "+a -a +e +f -f -e")
        self.does(("cut", "a"), "+e +f -f -e")
        self.does(("pour", "b", "e"), "+a +b -b -a +e +f -f +c -c +d -d -e")
        self.does(("pour", "e", "b"), "+a +b +c -c +d -d +f -f -b -a +e -e")
        self.does(("pour", "b", "a"), "+a +b -b +c -c +d -d -a +e +f -f -e")
        self.does(("pour", "c", "b"), " ".join(self.ROW))

    def test_wrap_and_put(self):
        self.does(("wrap", "b", "n"), "+a +n +b +c -c +d -d -b -n -a +e +f -f -e")
        self.does(("wrap", "f", "n"), "+a +b +c -c +d -d -b -a +e +n +f -f -n -e")
        self.does(("put", "n", "b"), "+a +b +c -c +d -d +n -n -b -a +e +f -f -e")
        self.does(("put", "n", "f"), "+a +b +c -c +d -d -b -a +e +f +n -n -f -e")

    def test_front_of_the_only_root_and_of_a_deep_node(self):
        self.assertEqual(do_deed((("a", ()),), ("front", "a")), (("a", ()),))
        self.assertEqual(do_deed((("b", (("c", (("a", ()),)),)),), ("front", "a")), (("a", ()), ("b", (("c", ()),))))
        last = name_at(149)
        self.assertEqual(do_deed(deep(150), ("front", last)), ((last, ()),) + deep(149))
        self.assertEqual(do_deed(deep(150), ("back", last)), deep(149) + ((last, ()),))


class Stops(Case):

    def stops(self, wood, deed, word):
        error = self.refused(Stopped, do_deed, wood, deed)
        self.assertEqual((error.index, error.word), (0, word), (wood, deed))

    def test_gone(self):
        for word in WORDS:
            if word in ("front", "back", "lift", "cut"):
                self.stops(W, (word, "x"), "gone")
                self.stops((), (word, "x"), "gone")
            elif word == "wrap":
                self.stops(W, (word, "x", "n"), "gone")
            elif word == "put":
                self.stops(W, (word, "n", "x"), "gone")
            else:
                for names in (("x", "a"), ("a", "x"), ("x", "y"), ("x", "x")):
                    self.stops(W, (word,) + names, "gone")

    def test_taken(self):
        for name in "abcd":
            for other in "abcd":
                self.stops(W, ("wrap", name, other), "taken")
                self.stops(W, ("put", name, other), "taken")

    def test_inside_for_moves_and_pour(self):
        for word in MOVES + ("pour",):
            for a, b in (("a", "a"), ("a", "b"), ("a", "c"), ("d", "d")):
                self.stops(W, (word, a, b), "inside")
            self.assertEqual(len(plain_row(do_deed(W, (word, "b", "a")))), 8)

    def test_inside_for_swap(self):
        for a, b in (("a", "a"), ("a", "b"), ("b", "a"), ("a", "c"), ("c", "a"), ("d", "d")):
            self.stops(W, ("swap", a, b), "inside")

    def test_turn_never_stops_with_inside(self):
        self.assertEqual(do_deed(W, ("turn", "a", "b")), (("b", (("a", ()), ("c", ()))), ("d", ())))
        self.assertEqual(do_deed(W, ("turn", "b", "a")), (("b", (("a", ()), ("c", ()))), ("d", ())))
        for name in "abcd":
            self.assertEqual(do_deed(W, ("turn", name, name)), W)
        self.stops(W, ("turn", "x", "x"), "gone")

    def test_gone_comes_ahead_of_taken_and_inside(self):
        self.stops(W, ("wrap", "x", "a"), "gone")
        self.stops(W, ("put", "a", "x"), "gone")
        for word in TWO_OLD:
            self.stops(W, (word, "x", "x"), "gone")

    def test_put_and_wrap_with_one_name_twice(self):
        self.stops(W, ("put", "n", "n"), "gone")
        self.stops(W, ("put", "a", "a"), "taken")
        self.stops(W, ("wrap", "n", "n"), "gone")
        self.stops(W, ("wrap", "a", "a"), "taken")
        self.stops((), ("put", "n", "n"), "gone")
        self.stops((), ("wrap", "n", "n"), "gone")


class Great(unittest.TestCase):

    def test_more_than_120_names_behind(self):
        first = name_at(0)
        found = do_deed(wide(120), ("put", "x", first))
        self.assertEqual(found, ((first, (("x", ()),)),) + wide(120)[1:])
        self.assertEqual(wood_error(found), "many")
        found = do_deed(found, ("wrap", "x", "y"))
        self.assertEqual(found, ((first, (("y", (("x", ()),)),)),) + wide(120)[1:])

    def test_more_than_100_deep_behind(self):
        names = names_up_to(100)
        wood = deep(100)
        for name in "xyz":
            wood = do_deed(wood, ("wrap", names[0], name))
        self.assertEqual(wood, (("x", (("y", (("z", deep(100)),)),)),))
        self.assertEqual(do_deed(wood, ("lift", "z")), (("x", (("y", deep(100)),)),))
        self.assertEqual(do_deed(wood, ("front", names[0])), deep(100) + (("x", (("y", (("z", ()),)),)),))

    def test_two_deep_stacks_become_one(self):
        rest = (("r", (("s", ()),)),)
        wood = deep(60) + rest
        self.assertEqual(do_deed(wood, ("last", "r", name_at(59))), deep(60, rest))
        self.assertEqual(do_deed(deep(120) + rest, ("last", "r", name_at(119))), deep(120, rest))
        self.assertEqual(do_deed(deep(120) + rest, ("pour", "r", name_at(119))),
                         deep(120, (("s", ()),)) + (("r", ()),))

    def test_a_stop_in_a_great_wood(self):
        for deed, word in ((("last", name_at(0), name_at(149)), "inside"), (("cut", "x"), "gone")):
            with self.assertRaises(Stopped) as caught:
                do_deed(deep(150), deed)
            self.assertEqual(caught.exception.word, word)

    def test_equal_calls_and_arguments(self):
        for _ in range(2):
            self.assertEqual(do_deed(W, ("cut", "a")), (("d", ()),))
        self.assertEqual(W, (("a", (("b", ()), ("c", ()))), ("d", ())))
