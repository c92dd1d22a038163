"""[8]: alike, within and commutes, against all small woods."""

from itertools import product

from tests.other_ways import all_deeds, plain_script, stopped
from tests.samples import Case, all_woods, paths
from twigscripts.bounds import MAX_OLD
from twigscripts.deeds import new_names, old_names
from twigscripts.errors import Clash, TooMany
from twigscripts.pairs import alike, commutes, within
from twigscripts.woods import wood_error

DEEDS = [(deed,) for deed in all_deeds("ab") + [("put", "n", "a"), ("wrap", "b", "n"), ("wrap", "a", "n")]]
LONGER = [
    (), (("front", "a"), ("front", "b")), (("front", "b"), ("front", "a")), (("put", "n", "a"), ("cut", "n")),
    (("wrap", "a", "n"), ("lift", "n")), (("lift", "a"), ("wrap", "b", "a")), (("cut", "a"), ("put", "a", "b")),
    (("last", "a", "b"), ("front", "a")), (("swap", "a", "b"), ("swap", "a", "b")), (("cut", "a"), ("cut", "b")),
    (("turn", "a", "b"), ("swap", "a", "b")), (("pour", "a", "b"), ("pour", "b", "a")), (("cut", "a"), ("cut", "a")),
    (("pour", "a", "b"), ("first", "a", "b")), (("pour", "a", "b"), ("last", "a", "b")), (("lift", "a"), ("lift", "b")),
]
STOPS = (("cut", "a"), ("cut", "a"))


def fitting(one, other, extra):
    """All woods with the old names of both scripts and this many other names."""
    names = sorted(set(old_names(one) + old_names(other)))
    return all_woods(names + ["x", "y", "z"][:extra])


def unlike(one, other):
    """Whether two outcomes are not alike."""
    if stopped(one) or stopped(other):
        return not (stopped(one) and stopped(other))
    return one != other


def parts_alike(one, other, wood):
    return unlike(plain_script(wood, one), plain_script(wood, other))


def parts_within(one, other, wood):
    first = plain_script(wood, one)
    return not stopped(first) and first != plain_script(wood, other)


def parts_commutes(one, other, wood):
    return unlike(plain_script(wood, one + other), plain_script(wood, other + one))


PARTS = {alike: parts_alike, within: parts_within, commutes: parts_commutes}


class Shown(Case):

    def right(self, call, one, other, most=2):
        """What the call returns is None rightly, or shows it with as few nodes as there are."""
        parts = PARTS[call]
        found = call(one, other)
        needed = len(set(old_names(one) + old_names(other)))
        fewer = most + 1
        if found is not None:
            self.assertIs(wood_error(found), None)
            names = set(paths(found))
            self.assertLessEqual(set(old_names(one) + old_names(other)), names)
            self.assertFalse(set(new_names(one) + new_names(other)) & names)
            self.assertTrue(parts(one, other, found), (call.__name__, one, other, found))
            fewer = len(names) - needed
        for extra in range(fewer):
            for wood in fitting(one, other, extra):
                self.assertFalse(parts(one, other, wood), (call.__name__, one, other, found, wood))
        return found



class Pairs(Shown):

    def clashes(self, one, other):
        return bool(set(old_names(one)) & set(new_names(other)) or set(old_names(other)) & set(new_names(one)))

    def test_scripts_of_one_deed(self):
        pairs = [pair for pair in product(DEEDS, repeat=2) if not self.clashes(*pair)]
        kinds = set()
        for place, (one, other) in enumerate(pairs):
            for call in (alike, within, commutes):
                found = self.right(call, one, other, 1 + (place % 20 == 0))
                kinds.add((call, None if found is None else len(paths(found))))
        for call in (alike, within, commutes):
            self.assertGreaterEqual(len([kind for kind in kinds if kind[0] is call]), 3)

    def test_longer_scripts(self):
        for place, (one, other) in enumerate(product(LONGER, LONGER + DEEDS[::6])):
            for call in (alike, within, commutes):
                if (place + len(call.__name__)) % 3 == 0 and not self.clashes(one, other):
                    self.right(call, one, other, 1 + (place % 8 == 0))

    def test_each_number_of_leaves(self):
        rows = (((("swap", "a", "b"),), (("turn", "a", "b"),), 0), ((("cut", "a"),), (), 0),
                ((("swap", "a", "b"),), (), 0), ((("put", "n", "a"),), (("wrap", "a", "n"),), 0),
                ((("front", "a"),), (), 1), ((("front", "a"),), (("back", "a"),), 1),
                ((("lift", "a"),), (("cut", "a"),), 1), ((("first", "a", "b"),), (("last", "a", "b"),), 1),
                ((("front", "a"), ("lift", "a")), (("lift", "a"),), 2),
                ((("front", "a"), ("lift", "a")), (("back", "a"), ("lift", "a")), 2))
        for one, other, extra in rows:
            found = self.right(alike, one, other)
            self.assertEqual(len(paths(found)) - len(set(old_names(one) + old_names(other))), extra, (one, other))

    def test_three_and_four_names(self):
        rows = (((("last", "a", "b"), ("last", "b", "c")), (("last", "b", "c"), ("last", "a", "b"))),
                ((("front", "a"), ("front", "b"), ("front", "c")), (("front", "c"),)),
                ((("swap", "a", "b"), ("swap", "b", "c")), (("swap", "a", "c"), ("swap", "a", "b"))),
                ((("lift", "a"), ("lift", "b")), (("lift", "b"), ("lift", "a"), ("turn", "c", "c"))))
        for one, other in rows:
            for call in (alike, within, commutes):
                self.right(call, one, other, 1)
        for call in (alike, within, commutes):
            self.right(call, (("last", "a", "b"), ("turn", "c", "d")), (("turn", "d", "c"), ("last", "a", "b")), 0)
            self.right(call, (("swap", "a", "b"),), (("swap", "c", "d"),), 0)

    def test_the_document(self):
        self.assertIs(alike((("front", "a"),), (("front", "a"), ("front", "a"))), None)
        self.assertIs(alike((("swap", "a", "b"),), (("swap", "b", "a"),)), None)
        self.assertIsNot(within((("last", "a", "b"),), (("swap", "a", "b"),)), None)

    def test_a_script_is_alike_with_itself(self):
        for script in DEEDS + LONGER:
            for call in (alike, within, commutes):
                self.assertIs(call(script, script), None)

    def test_one_that_always_stops(self):
        self.assertIs(alike(STOPS, (("lift", "a"), ("front", "a"))), None)
        self.assertIs(alike(STOPS, (("last", "a", "a"),)), None)
        self.assertIs(within(STOPS, (("front", "a"),)), None)
        self.assertEqual(within((("front", "a"),), STOPS), (("a", ()),))
        self.assertEqual(alike((("front", "a"),), STOPS), (("a", ()),))
        self.assertIs(commutes(STOPS, (("front", "a"),)), None)
        self.assertIs(commutes((("put", "n", "n"),), (("cut", "a"),)), None)

    def test_commutes_asks_for_both_orders(self):
        self.assertIs(commutes((("lift", "a"),), (("lift", "b"),)), None)
        self.assertIsNot(commutes((("front", "a"),), (("front", "b"),)), None)
        self.assertIs(self.right(commutes, (("front", "a"),), (("back", "b"),)), None)
        self.assertIs(commutes((("put", "n", "a"),), (("put", "n", "a"),)), None)
        self.assertIs(commutes((("put", "n", "a"),), (("put", "m", "b"),)), None)
        self.assertIsNot(commutes((("put", "n", "a"),), (("put", "m", "a"),)), None)

    def test_leaves_have_names_of_their_own(self):
        for name in "abcxyzuvwnm":
            one = (("wrap", "k", name), ("front", name), ("lift", name))
            other = (("back", "k"), ("put", "x" if name != "x" else "y", "k"), ("cut", "x" if name != "x" else "y"))
            found = self.right(alike, one, other, 1)
            self.assertEqual(len(paths(found)), 2)

    def test_results_are_woods_that_fit_though_all_letters_near_are_told(self):
        one = tuple(("put", name, "a") for name in "xyz") + (("swap", "b", "c"),)
        other = tuple(("put", name, "b") for name in "uvw") + (("swap", "c", "d"),)
        for call in (alike, within, commutes):
            self.right(call, one, other, 0)
        for leaf in "xyzuvw":
            found = self.right(alike, (("front", leaf),), (("back", leaf),), 1)
            self.assertEqual(len(paths(found)), 2)


class PairsRefused(Case):

    def clash(self, one, other, name):
        for call in (alike, within, commutes):
            self.assertEqual(self.refused(Clash, call, one, other).name, name, (one, other))
            self.assertEqual(self.refused(Clash, call, other, one).name, name, (other, one))

    def test_clash_either_way(self):
        self.clash((("put", "n", "b"),), (("cut", "n"),), "n")
        self.clash((("wrap", "a", "b"),), (("front", "b"),), "b")
        self.clash((("put", "n", "b"),), (("cut", "n"), ("put", "n", "b")), "n")

    def test_the_first_name_in_ascending_order(self):
        self.clash((("put", "n", "a"), ("put", "k", "a")), (("last", "n", "k"),), "k")
        self.clash((("wrap", "c", "d"),), (("wrap", "d", "c"),), "c")
        self.clash((("wrap", "b", "a"), ("front", "z")), (("front", "a"), ("wrap", "a", "z")), "a")

    def test_too_many_old_names(self):
        four = (("last", "a", "b"), ("last", "c", "d"))
        for one, other in ((four, (("front", "e"),)), ((("swap", "a", "b"),), (("swap", "c", "d"), ("cut", "e"))),
                           (four, (("swap", "e", "f"), ("swap", "g", "h")))):
            for call in (alike, within, commutes):
                self.assertEqual(self.refused(TooMany, call, one, other).limit, MAX_OLD)
                self.assertEqual(self.refused(TooMany, call, other, one).limit, MAX_OLD)
        for call in (alike, within, commutes):
            self.assertIs(call(four, four + (("turn", "a", "a"),)), None)

    def test_clash_comes_ahead_of_too_many(self):
        self.clash((("last", "a", "b"), ("last", "c", "d"), ("put", "n", "a")), (("front", "e"), ("cut", "n")), "n")

    def test_names_that_are_new_in_both_do_not_clash(self):
        self.assertIs(alike((("put", "n", "a"),), (("put", "n", "a"),)), None)
        self.assertIsNot(alike((("put", "n", "a"),), (("put", "m", "a"),)), None)


class Greatest(Shown):

    def test_two_scripts_of_twelve_deeds(self):
        one = (("swap", "a", "b"), ("turn", "c", "d"), ("swap", "c", "b")) * 4
        other = (("turn", "c", "d"), ("swap", "b", "a"), ("turn", "b", "b")) * 4
        self.assertEqual((len(one), len(other)), (12, 12))
        found = [self.right(call, one, other, 0) for call in (alike, within, commutes)]
        self.assertEqual(len(paths(found[0])), 4)
        wraps = (("wrap", "a", "n"), ("lift", "n")) * 6
        for call in (alike, within, commutes):
            self.assertIs(call(wraps, (("wrap", "a", "m"), ("lift", "m")) * 6), None)
            self.assertIs(call(wraps, ()), None)

    def test_together_more_than_twelve_deeds(self):
        one = (("swap", "a", "b"),) * 11
        self.assertIs(commutes(one, (("swap", "a", "b"),) * 12), None)
        found = commutes(one, (("front", "a"),) * 12)
        self.assertTrue(parts_commutes(one, (("front", "a"),) * 12, found))

    def test_equal_calls_give_equal_results(self):
        one, other = (("front", "a"), ("lift", "a")), (("back", "a"), ("lift", "a"))
        self.assertEqual(alike(one, other), alike(tuple(list(one)), tuple(list(other))))
