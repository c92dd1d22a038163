"""[14]: least_moves and fewest, against all ways by moves between small woods."""

import time
from itertools import permutations

from tests.other_ways import all_deeds, plain_deed, plain_script
from tests.samples import BUSY, ODD, V, W, Case, all_woods, deep, name_at, names_up_to, paths, wide
from twigscripts.deeds import deed_error, do_deed
from twigscripts.errors import Unlike
from twigscripts.moves import fewest, labels, least_moves, lets_fewest, lets_labels

MOVES = ("first", "last", "ahead", "behind", "front", "back")


def distances(wood):
    """The least number of moves from a wood to each one with the same names, found by trying all of them."""
    moves = [deed for deed in all_deeds(sorted(paths(wood))) if deed[0] in MOVES]
    found = {wood: 0}
    latest = [wood]
    while latest:
        coming = []
        for one in latest:
            for deed in moves:
                other = plain_deed(one, deed)
                if not isinstance(other, str) and other not in found:
                    found[other] = found[one] + 1
                    coming.append(other)
        latest = coming
    return found


def combs(many, deep_part):
    """Two woods with the same names: a chain with the others in its last node, and all in a row from the last on."""
    names = names_up_to(many)
    inside = tuple((name, ()) for name in names[deep_part:])
    return deep(deep_part, inside), tuple((name, ()) for name in reversed(names))


class Fewest(Case):

    def right(self, one, other):
        """The moves found lead from one wood to the other; how many they are."""
        found = fewest(one, other)
        self.assertIsInstance(found, tuple)
        for deed in found:
            self.assertIs(deed_error(deed), None)
            self.assertIn(deed[0], MOVES)
        self.assertEqual(plain_script(one, found), other)
        self.assertEqual(least_moves(one, other), len(found))
        return len(found)

    def test_all_woods_of_up_to_three_names(self):
        for names in ((), ("a",), ("b", "a"), ("a", "c", "b")):
            for one in all_woods(names):
                found = distances(one)
                self.assertEqual(len(found), len(all_woods(names)))
                for other, many in found.items():
                    self.assertEqual(self.right(one, other), many, (one, other))

    def test_woods_of_four_names(self):
        woods = all_woods(("a", "b", "c", "d"))
        for one in [W, V] + woods[::60]:
            found = distances(one)
            self.assertEqual(set(found.values()), {0, 1, 2, 3} | {max(found.values())})
            for other, many in found.items():
                self.assertEqual(self.right(one, other), many, (one, other))

    def test_the_way_back_takes_as_many(self):
        woods = all_woods(("a", "b", "c")) + [wood for wood in all_woods(("a", "b", "c", "d"))][::17]
        for one in woods:
            for other in woods:
                if len(paths(one)) == len(paths(other)):
                    self.assertEqual(least_moves(one, other), least_moves(other, one))

    def test_the_document(self):
        self.assertEqual(least_moves(W, V), 2)
        self.assertEqual(self.right(W, V), 2)

    def test_a_wood_and_itself(self):
        for wood in ((), W, V, BUSY, wide(120), deep(40), deep(150), wide(400)):
            self.assertEqual(least_moves(wood, wood), 0)
            self.assertEqual(fewest(wood, wood), ())

    def test_rows_of_roots_turned_round(self):
        for many in (1, 2, 3, 7, 60, 120):
            row = wide(many)
            self.assertEqual(self.right(row, row[::-1]), many - 1)
            self.assertEqual(self.right(row, row[many // 2:] + row[:many // 2]), many // 2)
        inside = (("a", wide(20)),)
        self.assertEqual(self.right(inside, (("a", wide(20)[::-1]),)), 19)

    def test_all_orders_of_six_roots(self):
        row = wide(6)
        for order in list(permutations(row))[::7]:
            places = [row.index(tree) for tree in order]
            longest = [1] * 6
            for place in range(6):
                longest[place] += max([longest[at] for at in range(place) if places[at] < places[place]], default=0)
            self.assertEqual(self.right(row, order), 6 - max(longest))

    def test_chains_turned_inside_out(self):
        for many in (2, 3, 10, 40):
            other = ()
            for name in names_up_to(many):
                other = ((name, other),)
            self.assertEqual(self.right(deep(many), other), many)
        self.assertEqual(self.right((("a", (("b", (("c", ()),)),)),), (("b", (("a", (("c", ()),)),)),)), 3)

    def test_a_row_and_a_chain(self):
        for many in (2, 5, 40):
            self.assertEqual(self.right(wide(many), deep(many)), many - 1)
            self.assertEqual(self.right(deep(many), wide(many)), many - 1)
            self.assertEqual(self.right(wide(many)[::-1], deep(many)), many - 1)

    def test_a_node_moves_into_what_lay_in_it(self):
        self.assertEqual(self.right((("a", (("b", ()), ("c", ()))),), (("b", (("a", (("c", ()),)),)),)), 2)
        self.assertEqual(self.right((("a", (("b", (("c", ()),)),)),), (("c", (("a", (("b", ()),)),)),)), 2)

    def test_one_move_is_one_move(self):
        for deed in (("first", "d", "z"), ("last", "k", "d"), ("ahead", "q", "m"), ("behind", "m", "d"), ("front", "x"),
                     ("back", "b")):
            other = do_deed(BUSY, deed)
            self.assertEqual(self.right(BUSY, other), 1)
            self.assertEqual(self.right(other, BUSY), 1)

    def test_great_woods_in_a_short_time(self):
        begin = time.perf_counter()
        for one, other in (combs(120, 39), combs(120, 1), combs(110, 20)):
            self.right(one, other)
            self.right(other, one)
        self.assertEqual(least_moves(*combs(120, 39)), 119)
        self.assertLess(time.perf_counter() - begin, 20)

    def test_results_greater_than_what_is_passed(self):
        self.assertEqual(len(fewest(wide(400), wide(400)[::-1])), 399)
        self.assertEqual(least_moves(deep(150), wide(150)), 149)
        self.assertEqual(plain_script(wide(150), fewest(wide(150), deep(150))), deep(150))

    def test_equal_calls_give_equal_results(self):
        self.assertEqual(fewest(W, V), fewest(tuple(list(W)), tuple(list(V))))


class UnlikeNames(Case):

    def test_one_more_one_less_another_one(self):
        x = (("x", ()),)
        for one, other in ((W, W[:1]), (W[:1], W), (W, W + x), (W + x, W), (W[:1] + x, W), (W, W[:1] + x), ((), x),
                           (x, ()), (wide(120), wide(119)), (deep(40), deep(39)), (x, (("y", (x)),))):
            self.refused(Unlike, least_moves, one, other)
            self.refused(Unlike, fewest, one, other)
            self.refused(Unlike, labels, one, other)
            for value in ODD + ((), (("a", 0),)):
                self.refused(Unlike, lets_labels, one, other, value)
                self.refused(Unlike, lets_fewest, one, other, value, value)
                self.refused(Unlike, lets_fewest, one, other, (), value)
                self.refused(Unlike, lets_fewest, one, other, value, ())

    def test_another_order_is_no_error(self):
        for one, other in ((W, V), (V, W), (wide(9), wide(9)[::-1]), (wide(9), deep(9))):
            self.assertEqual(least_moves(one, other), len(fewest(one, other)))
            self.assertIs(lets_labels(one, other, labels(one, other)), True)
            self.assertIs(lets_fewest(one, other, (), ()), False)

    def test_no_names(self):
        self.assertEqual((least_moves((), ()), fewest((), ()), labels((), ())), (0, (), ()))
        self.assertIs(lets_labels((), (), ()), True)
        self.assertIs(lets_fewest((), (), (), ()), True)
        self.assertIs(lets_fewest((), (), (("front", name_at(0)),), ()), False)
