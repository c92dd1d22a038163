"""[9]: loses, stops_on and fate, against all small woods."""

from itertools import product

from tests.other_ways import all_deeds, plain_script, stopped
from tests.samples import Case, all_woods, paths, plain_row
from twigscripts.deeds import new_names, old_names
from twigscripts.pairs import fate, loses, stops_on
from twigscripts.tables import skeletons
from twigscripts.woods import wood_error

DEEDS = all_deeds("ab") + [("put", "n", "a"), ("wrap", "b", "n"), ("cut", "n"), ("last", "a", "n")]
MOVES_BOTH = [("front", "a"), ("back", "a")] + [(word, "a", "b") for word in ("first", "last", "ahead", "behind")]
ALWAYS = (("cut", "a"), ("cut", "a"))


def fewest_made_one(script, most):
    """The fewest nodes of two unlike woods together that become one, of woods with at most so many others."""
    names = list(old_names(script))
    least = {}
    found = []
    for extra in ((), ("x",), ("y",), ("x", "y"))[:4 if most == 2 else 3]:
        for wood in all_woods(names + list(extra)):
            result = plain_script(wood, script)
            if stopped(result):
                continue
            many = len(names) + len(extra)
            if result in least:
                found.append(least[result] + many)
            least[result] = min(many, least.get(result, many))
    return min(found, default=None)


class Loses(Case):

    def right(self, script, most=2):
        """The pair is None rightly, or shows a loss with as few nodes as there are."""
        pair = loses(script)
        expected = fewest_made_one(script, most)
        if pair is None:
            self.assertIs(expected, None, script)
            return None
        self.assertEqual((type(pair), len(pair)), (tuple, 2))
        one, other = pair
        self.assertNotEqual(one, other)
        for wood in pair:
            self.assertIs(wood_error(wood), None)
            self.assertLessEqual(set(old_names(script)), set(paths(wood)))
            self.assertFalse(set(new_names(script)) & set(paths(wood)))
        result = plain_script(one, script)
        self.assertFalse(stopped(result))
        self.assertEqual(result, plain_script(other, script), script)
        self.assertLessEqual(len(paths(one)), len(paths(other)))
        self.assertEqual(len(paths(one)) + len(paths(other)), expected, script)
        return pair

    def test_each_deed(self):
        for deed in DEEDS:
            self.right((deed,))

    def test_scripts_of_two_deeds(self):
        kinds = set()
        for place, script in enumerate(product(DEEDS, repeat=2)):
            if place % 3 == 0:
                pair = self.right(script, 1 + (place % 4 == 0))
                kinds.add(pair and len(paths(pair[0])) + len(paths(pair[1])) - 2 * len(old_names(script)))
        self.assertEqual(kinds, {None, 0, 1, 2})

    def test_three_names(self):
        for script in ((("last", "a", "b"), ("last", "b", "c")), (("swap", "a", "b"), ("turn", "b", "c")),
                       (("cut", "a"), ("wrap", "b", "a"), ("front", "c")), (("pour", "a", "b"), ("turn", "a", "c"))):
            self.right(script, 1)

    def test_nothing_is_lost(self):
        for script in ((), (("turn", "a", "b"),), (("swap", "a", "b"),), (("wrap", "a", "n"), ("lift", "n")),
                       (("put", "n", "a"), ("cut", "n")), (("swap", "a", "b"), ("swap", "b", "a")),
                       (("wrap", "a", "n"),), (("put", "n", "a"),), (("turn", "a", "a"),),
                       (("swap", "a", "b"), ("turn", "a", "c"), ("wrap", "b", "n"), ("put", "m", "n")),
                       (("front", "a"), ("cut", "a"), ("front", "a")), ALWAYS, (("put", "n", "n"),)):
            self.assertIs(loses(script), None, script)

    def test_moves_that_are_taken_back_lose_nothing(self):
        for deed in MOVES_BOTH:
            back = (("wrap", "a", "n"), deed, ("first", "a", "n"))
            self.assertIs(self.right(back, 1), None, deed)
            self.assertIs(self.right(back + (("lift", "n"),), 1), None, deed)
            self.assertIsNot(self.right((deed, ("wrap", "a", "n"), ("lift", "n"))), None, deed)

    def test_what_is_cut_is_lost(self):
        one, other = self.right((("cut", "a"),))
        self.assertEqual((one, len(paths(other))), ((("a", ()),), 2))
        one, other = self.right((("cut", "a"), ("put", "a", "b")))
        self.assertEqual((len(paths(one)), len(paths(other))), (2, 2))

    def test_what_is_lifted_or_poured_or_moved_is_lost(self):
        for deed in [("lift", "a"), ("pour", "a", "b")] + MOVES_BOTH:
            one, other = self.right((deed,))
            self.assertEqual(len(paths(one)) + len(paths(other)), 6 if deed[0] == "pour" else 4, deed)

    def test_the_document(self):
        self.assertIs(loses((("turn", "a", "b"),)), None)

    def test_two_skeletons_that_become_one(self):
        pair = self.right((("front", "b"), ("front", "a")))
        self.assertEqual([len(paths(wood)) for wood in pair], [2, 2])
        four = (("front", "d"), ("front", "c"), ("front", "b"), ("front", "a"))
        one, other = loses(four)
        self.assertEqual((len(paths(one)), len(paths(other))), (4, 4))
        self.assertEqual(plain_script(one, four), plain_script(other, four))

    def test_leaves_have_names_of_their_own(self):
        for name in "xyzuvw":
            self.right((("put", name, "a"), ("cut", name), ("front", "a")))
            self.right((("cut", name),))

    def test_equal_calls_give_equal_results(self):
        self.assertEqual(loses((("lift", "a"),)), loses(tuple([("lift", "a")])))


class StopsOn(Case):

    def test_the_document(self):
        self.assertEqual(stops_on((("last", "a", "b"),)), ((("+a", "+b", "-b", "-a"), 0, "inside"),))
        self.assertEqual(fate((("last", "a", "b"),)), "open")

    def test_against_all_skeletons(self):
        scripts = [(deed,) for deed in DEEDS] + list(product(DEEDS, repeat=2))[::3]
        scripts += [(("last", "a", "b"), ("swap", "b", "c")), (("swap", "a", "b"), ("swap", "c", "d")), (), ALWAYS]
        fates = set()
        for script in scripts:
            woods = skeletons(old_names(script))
            results = [(plain_row(wood), plain_script(wood, script)) for wood in woods]
            expected = tuple((row,) + result for row, result in results if stopped(result))
            self.assertEqual(stops_on(script), expected, script)
            word = {0: "does", len(woods): "stops"}.get(len(expected), "open")
            self.assertEqual(fate(script), word, script)
            fates.add(word)
        self.assertEqual(fates, {"does", "stops", "open"})

    def test_scripts_that_always_stop(self):
        self.assertEqual(stops_on(ALWAYS), ((("+a", "-a"), 1, "gone"),))
        self.assertEqual(stops_on((("put", "n", "n"),)), (((), 0, "gone"),))
        self.assertEqual(stops_on((("wrap", "a", "a"),)), ((("+a", "-a"), 0, "taken"),))
        for script in (ALWAYS, (("put", "n", "n"),), (("wrap", "a", "a"),), (("last", "a", "a"),)):
            self.assertEqual(fate(script), "stops")

    def test_scripts_that_never_stop(self):
        for script in ((), (("front", "a"),), (("turn", "a", "b"),), (("wrap", "a", "n"), ("lift", "a"))):
            self.assertEqual((stops_on(script), fate(script)), ((), "does"))

    def test_scripts_that_sometimes_stop(self):
        self.assertEqual(stops_on((("front", "a"), ("swap", "b", "a"))), ((("+a", "+b", "-b", "-a"), 1, "inside"),))
        self.assertEqual(stops_on((("cut", "a"), ("cut", "b"))), ((("+a", "+b", "-b", "-a"), 1, "gone"),))
        self.assertEqual(len(stops_on((("swap", "a", "b"),))), 2)
        for script in ((("front", "a"), ("swap", "b", "a")), (("cut", "a"), ("cut", "b")), (("swap", "a", "b"),)):
            self.assertEqual(fate(script), "open")

    def test_where_and_why_it_stops(self):
        script = (("last", "a", "b"), ("last", "b", "c"), ("last", "c", "d"))
        found = stops_on(script)
        self.assertEqual({(index, word) for _, index, word in found}, {(0, "inside"), (1, "inside"), (2, "inside")})
        self.assertEqual([row for row, _, _ in found], sorted(row for row, _, _ in found))
