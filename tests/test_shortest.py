"""[13]: shortest, against all scripts of fewer deeds with the same names."""

from itertools import permutations, product

from tests.other_ways import all_deeds, fitting_woods, full_woods, plain_alike
from tests.samples import ODD, Case, nested_list
from twigscripts.bounds import MAX_FEW, MAX_SHORT
from twigscripts.deeds import script_error
from twigscripts.errors import BadScript, TooMany
from twigscripts.short import shortest

DEEDS = all_deeds("ab") + [("put", "n", "a"), ("wrap", "b", "n"), ("lift", "n"), ("turn", "n", "b")]
ALWAYS = (("cut", "a"), ("cut", "a"))


def names_of_script(script):
    return sorted({name for deed in script for name in deed[1:]})


def scripts_of(many, names):
    return product(all_deeds(names), repeat=many)


class Shortest(Case):

    def right(self, script, many, woods=None):
        """The script found does alike and has so many deeds, and no script of fewer does alike (None: none of two)."""
        woods = full_woods(script) if woods is None else woods
        found = shortest(script)
        if many is None:
            self.assertIs(found, None, script)
        else:
            self.assertIs(script_error(found), None)
            self.assertEqual(len(found), many, script)
            self.assertLessEqual(set(names_of_script(found)), set(names_of_script(script)))
            self.assertTrue(plain_alike(found, script, woods), (script, found))
        for fewer in range(MAX_SHORT + 1 if many is None else many):
            for other in scripts_of(fewer, names_of_script(script)):
                self.assertFalse(plain_alike(other, script, woods), (script, other))
        return found

    def test_scripts_of_one_deed(self):
        for deed in DEEDS:
            self.right((deed,), int(deed[0] != "turn" or deed[1] != deed[2]))

    def test_scripts_of_two_deeds(self):
        lengths = set()
        for script in list(product(DEEDS, repeat=2))[::11]:
            if len(names_of_script(script)) <= MAX_FEW:
                found = shortest(script)
                self.right(script, len(found))
                lengths.add(len(found))
        self.assertEqual(lengths, {0, 1, 2})

    def test_no_deed_is_enough(self):
        swap = ("swap", "a", "b")
        for script in ((), (("turn", "a", "a"),), (("turn", "a", "b"),) * 2, (("turn", "b", "a"), ("turn", "a", "b")),
                       (("wrap", "a", "n"), ("lift", "n")), (("put", "n", "b"), ("lift", "n")),
                       (("turn", "a", "b"), ("turn", "b", "c")) * 3, (("turn", "c", "c"),) * 12):
            self.assertEqual(shortest(script), (), script)
            self.assertEqual(self.right(script, 0), ())
        self.assertNotEqual(shortest((swap, swap)), ())

    def test_one_deed_is_enough(self):
        for script in ((("behind", "a", "b"), ("ahead", "b", "a")), (("front", "a"),) * 12,
                       (("turn", "a", "b"), ("turn", "b", "c"), ("turn", "a", "b")), (("back", "a"), ("front", "a")),
                       (("put", "n", "a"), ("lift", "n"), ("cut", "a")), ALWAYS,
                       ALWAYS + (("front", "b"), ("put", "n", "b"))):
            self.right(script, 1)

    def test_two_deeds_are_enough(self):
        for script in ((("front", "a"), ("front", "b"), ("front", "a")), (("lift", "a"), ("wrap", "b", "a")),
                       (("put", "n", "a"), ("cut", "a"), ("front", "b")), (("cut", "a"), ("put", "a", "b")),
                       (("put", "n", "a"), ("turn", "n", "a"), ("lift", "a")),
                       (("wrap", "a", "n"), ("lift", "a"), ("lift", "n"), ("lift", "b"))):
            self.right(script, 2)

    def test_two_deeds_are_not_enough(self):
        for script in ((("front", "a"), ("front", "b"), ("front", "c")),
                       (("last", "a", "b"), ("lift", "b"), ("wrap", "a", "n"), ("put", "b", "n"))):
            self.right(script, None)
        for script in ((("put", "n", "a"), ("put", "m", "a"), ("front", "a")),
                       (("lift", "a"), ("lift", "b"), ("cut", "c")),
                       (("last", "a", "b"), ("last", "b", "c"), ("front", "a"))):
            self.assertIs(shortest(script), None)

    def test_three_names(self):
        self.right((("first", "a", "b"), ("turn", "b", "c"), ("turn", "c", "b")), 1)
        self.right((("back", "b"), ("front", "a"), ("swap", "a", "a"), ("cut", "c")), 1)
        self.right((("wrap", "a", "n"), ("wrap", "n", "m"), ("lift", "a")), None)

    def test_all_small_woods(self):
        for script in ((("front", "a"), ("back", "a")), (("lift", "b"), ("lift", "a")),
                       (("pour", "a", "b"), ("cut", "a")), (("wrap", "a", "n"), ("front", "n"), ("lift", "n")),
                       (("last", "a", "b"), ("first", "a", "b"))):
            found = shortest(script)
            self.assertTrue(plain_alike(found, script, fitting_woods(script, 2)))
            self.right(script, len(found), fitting_woods(script, 2))

    def test_the_document(self):
        found = self.right((("behind", "a", "b"), ("ahead", "b", "a")), 1)
        self.assertEqual(found, (("behind", "a", "b"),))

    def test_names_may_be_old_in_the_one_and_new_in_the_other(self):
        script = (("cut", "a"), ("cut", "a"), ("put", "n", "b"))
        found = self.right(script, 1)
        self.assertTrue(plain_alike(found, script, fitting_woods(script, 2)))
        script = (("turn", "a", "b"), ("turn", "a", "b"), ("wrap", "b", "a"))
        self.right(script, 1)

    def test_scripts_that_always_stop(self):
        for script in (ALWAYS, (("put", "n", "n"),), (("wrap", "a", "a"),), (("last", "a", "a"),),
                       (("put", "n", "a"), ("put", "n", "a")),
                       (("front", "a"), ("swap", "b", "c"), ("swap", "a", "a"))):
            self.right(script, 1)

    def test_the_names_play_no_part(self):
        script = (("first", "a", "b"), ("first", "b", "c"), ("front", "b"))
        lengths = set()
        for one, two, three in permutations(("k", "zz", "abcdefgh")):
            names = {"a": one, "b": two, "c": three}
            other = tuple((deed[0],) + tuple(names[name] for name in deed[1:]) for deed in script)
            found = shortest(other)
            lengths.add(found and len(found))
        self.assertEqual(lengths, {shortest(script) and len(shortest(script))})

    def test_four_names(self):
        for script in ((("last", "a", "b"), ("last", "c", "d")), (("put", "n", "a"), ("last", "b", "c")),
                       tuple(("put", name, "a") for name in "xyz"), (("turn", "a", "a"), ("turn", "b", "b"),
                       ("turn", "c", "c"), ("turn", "d", "d")),
                       (("swap", "a", "b"), ("wrap", "a", "n"), ("put", "m", "n"))):
            self.assertEqual(self.refused(TooMany, shortest, script).limit, MAX_FEW)
        self.assertIsNot(shortest((("last", "a", "b"), ("last", "c", "b"))), None)

    def test_no_script(self):
        for value, error in ((None, (None, "script")), ([], (None, "script")), ((("front", "A"),), (0, "name")),
                             ((("front", "a"), ("root", "a")), (1, "deed")), ((("cut", "a"),) * 13, (None, "script")),
                             (tuple(("front", name) for name in "abcde"), (None, "old")),
                             (tuple(("put", name, "a") for name in "wxyz"), (None, "new"))):
            self.assertEqual(self.refused(BadScript, shortest, value).error, error)
        for value in ODD + (nested_list(100),):
            if value != ():
                self.refused(BadScript, shortest, value)
                self.refused(BadScript, shortest, (("last", "a", "b"), ("last", "c", "d"), value))

    def test_equal_calls_give_equal_results(self):
        script = (("front", "a"), ("front", "b"), ("front", "a"))
        self.assertEqual(shortest(script), shortest(tuple(list(script))))
