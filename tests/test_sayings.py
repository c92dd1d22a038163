"""[12]: holds and told, against all small woods."""

from itertools import product

from tests.other_ways import all_deeds, fitting_woods, plain_new_names, plain_said, plain_script, stopped
from tests.samples import BUSY, ODD, V, W, Case, deep, few_woods, name_at, nested_list, paths, wide
from twigscripts.bounds import MAX_OLD
from twigscripts.errors import BadScript, BadWish, TooMany
from twigscripts.sayings import holds, told
from twigscripts.woods import wood_error

ONE = ("root", "first", "last", "bare")
TWO = ("child", "next")
SCRIPTS = [(deed,) for deed in all_deeds("ab") + [("put", "n", "a"), ("wrap", "b", "n"), ("cut", "n")]] + [
    (), (("cut", "a"), ("cut", "a")), (("wrap", "a", "n"), ("last", "n", "b")), (("lift", "a"), ("wrap", "b", "a")),
    (("pour", "a", "b"), ("behind", "a", "b")), (("front", "a"), ("front", "b")), (("cut", "a"), ("put", "a", "b")),
    (("last", "a", "b"), ("first", "b", "a")), (("pour", "a", "b"), ("cut", "b")), (("put", "n", "a"), ("cut", "n")),
    (("back", "a"), ("front", "a"), ("wrap", "a", "n")), (("behind", "a", "b"), ("behind", "b", "a")),
    (("put", "n", "b"), ("put", "m", "n"), ("pour", "a", "n")), (("lift", "a"), ("lift", "b"), ("put", "n", "a")),
]


def sayings(names):
    """Each saying with these names."""
    return [(word, a) for word in ONE for a in names] + [(word, a, b) for word in TWO for a in names for b in names]


class Holds(Case):

    def test_against_lists_of_children(self):
        told_so = set()
        for wood in few_woods():
            if len(paths(wood)) <= 12:
                for saying in sayings(sorted(paths(wood)) + ["u"]):
                    found = holds(saying, wood)
                    self.assertIs(found, plain_said(saying, wood), (saying, wood))
                    told_so.add((saying[0], found))
        self.assertEqual(told_so, set(product(ONE + TWO, (True, False))))

    def test_roots_and_children(self):
        self.assertEqual([name for name in "abcd" if holds(("root", name), W)], ["a", "d"])
        for child, parent in product("abcd", repeat=2):
            self.assertIs(holds(("child", child, parent), W), (child, parent) in (("b", "a"), ("c", "a")))
        self.assertIs(holds(("child", "a", "k"), BUSY), False)
        self.assertIs(holds(("child", "a", "b"), BUSY), True)

    def test_neighbours_first_last_and_bare(self):
        pairs = {(a, b) for a, b in product(paths(BUSY), repeat=2) if holds(("next", a, b), BUSY)}
        self.assertEqual(pairs, {("m", "k"), ("k", "abcdefgh"), ("abcdefgh", "d"), ("b", "y"), ("y", "c"), ("z", "a")})
        self.assertEqual([name for name in "abcd" if holds(("first", name), W)], ["a", "b"])
        self.assertEqual([name for name in "abcd" if holds(("last", name), W)], ["c", "d"])
        self.assertEqual([name for name in "abcd" if holds(("bare", name), W)], ["b", "c", "d"])
        self.assertEqual([name for name in "abcd" if holds(("bare", name), V)], ["b", "c"])

    def test_names_that_are_not_there(self):
        for wood in (W, (), BUSY):
            for saying in sayings(("u", "uu")) + [(word,) + pair for word in TWO for pair in (("a", "u"), ("u", "a"))]:
                self.assertIs(holds(saying, wood), False, saying)

    def test_the_same_name_twice(self):
        for wood, word in product((W, V, BUSY), TWO):
            for name in paths(wood):
                self.assertIs(holds((word, name, name), wood), False)

    def test_great_woods(self):
        last = name_at(149)
        self.assertIs(holds(("child", last, name_at(148)), deep(150)), True)
        self.assertIs(holds(("child", last, name_at(0)), deep(150)), False)
        self.assertIs(holds(("bare", last), deep(150)), True)
        self.assertIs(holds(("next", name_at(398), name_at(399)), wide(400)), True)
        self.assertIs(holds(("root", name_at(399)), wide(400)), True)

    def test_what_is_no_saying(self):
        rows = [value for value in ODD + (nested_list(100), "root", "child", ["root", "a"], ["child", "a", "b"])]
        rows += [("roots", "a"), ("in", "a", "b"), ("here", "a"), ("not", ("root", "a")), ("Root", "a"), ("", "a")]
        rows += [("root",), ("root", "a", "b"), ("child", "a"), ("child",), ("next", "a"), ("next", "a", "b", "c")]
        rows += [("first", "a", "b"), ("last",), ("bare", "a", "a"), ("child", "a", "b", "c"), (("root", "a"),)]
        rows += [(value, "a") for value in ODD] + [(value, "a", "b") for value in ODD]
        for value in rows:
            self.assertEqual(self.refused(BadWish, holds, value, W).error, ((), "wish"), value)
            self.assertEqual(self.refused(BadWish, told, (), value).error, ((), "wish"), value)

    def test_odd_names(self):
        for value in ODD + (nested_list(100),):
            for saying in [(word, value) for word in ONE] + [
                    (word,) + pair for word in TWO for pair in ((value, "a"), ("a", value), (value, value))]:
                self.assertEqual(self.refused(BadWish, holds, saying, W).error, ((), "name"), saying)
                self.assertEqual(self.refused(BadWish, told, (), saying).error, ((), "name"), saying)

    def test_the_word_comes_ahead_of_the_names(self):
        self.assertEqual(self.refused(BadWish, holds, ("root", "A", "b"), W).error, ((), "wish"))
        self.assertEqual(self.refused(BadWish, holds, ("child", 1), W).error, ((), "wish"))
        self.assertEqual(self.refused(BadWish, told, (), (True, "A")).error, ((), "wish"))


class Told(Case):

    def right(self, script, saying, results):
        """told answers as the results on all small woods that fit do; these are pairs of a wood and what is behind."""
        found = told(script, saying)
        kinds = {plain_said(saying, behind) for _, behind in results if not stopped(behind)}
        expected = {(): "void", (True,): "sure", (False,): "never"}.get(tuple(kinds), "open")
        self.assertEqual(found[0], expected, (script, saying))
        self.assertEqual((type(found), len(found)), (tuple, 3 if expected == "open" else 1))
        for wood, answer in zip(found[1:], (True, False)):
            self.fits(wood, script, saying)
            behind = plain_script(wood, script)
            self.assertFalse(stopped(behind), (script, saying, wood))
            self.assertIs(plain_said(saying, behind), answer, (script, saying, wood))
        return expected

    def fits(self, wood, script, saying):
        self.assertIs(wood_error(wood), None)
        names = {name for deed in script for name in deed[1:]} | set(saying[1:])
        new = set(plain_new_names(script))
        self.assertLessEqual(names - new, set(paths(wood)))
        self.assertFalse(new & set(paths(wood)))

    def test_against_all_woods_with_one_node_more(self):
        kinds = set()
        for script in SCRIPTS:
            for names in (("a",), ("b",), ("n",), ("a", "b"), ("a", "n"), ("n", "b"), ("a", "u")):
                results = [(wood, plain_script(wood, script)) for wood in fitting_woods(script, 1, names)]
                for saying in sayings(names):
                    if set(saying[1:]) == set(names):
                        kinds.add((saying[0], self.right(script, saying, results)))
        self.assertEqual(kinds, set(product(ONE + TWO, ("void", "sure", "never", "open"))))

    def test_against_all_woods_with_two_nodes_more(self):
        for script in SCRIPTS[::3] + [(("back", "b"), ("lift", "b")), (("cut", "b"),), (("front", "a"), ("cut", "a"))]:
            for names in (("a",), ("b",), ("a", "b")):
                woods = fitting_woods(script, 2, names)
                if len(paths(woods[0])) <= 4:
                    results = [(wood, plain_script(wood, script)) for wood in woods]
                    for saying in sayings(names)[::2 if len(names) == 2 else 1]:
                        if set(saying[1:]) == set(names):
                            self.right(script, saying, results)

    def test_four_old_names(self):
        for script, saying, word in (
                ((("last", "a", "b"), ("last", "c", "d")), ("child", "a", "b"), "sure"),
                ((("last", "a", "b"), ("last", "c", "d")), ("next", "d", "c"), "never"),
                ((("last", "a", "b"), ("last", "c", "d")), ("first", "d"), "open"),
                ((("swap", "a", "b"),), ("next", "c", "d"), "open"),
                ((("front", "a"), ("front", "b"), ("front", "c")), ("first", "d"), "open"),
                ((("front", "d"), ("front", "a"), ("front", "b"), ("front", "c")), ("root", "d"), "sure"),
                ((("last", "a", "b"), ("last", "b", "c"), ("last", "c", "d"), ("last", "d", "a")), ("root", "d"),
                 "void")):
            found = told(script, saying)
            self.assertEqual(found[0], word, (script, saying))
            for wood, answer in zip(found[1:], (True, False)):
                self.fits(wood, script, saying)
                self.assertIs(plain_said(saying, plain_script(wood, script)), answer)

    def test_the_document(self):
        script = (("last", "a", "b"),)
        self.assertEqual(told(script, ("child", "a", "b")), ("sure",))
        self.assertEqual(told(script, ("last", "a")), ("sure",))
        self.assertEqual(told(script, ("bare", "b")), ("never",))
        self.assertEqual(told(script, ("first", "a"))[0], "open")

    def test_a_script_that_always_stops(self):
        for script in ((("cut", "a"), ("cut", "a")), (("last", "a", "a"),), (("put", "n", "n"),),
                       (("wrap", "a", "a"),)):
            for saying in sayings(("a", "b")):
                self.assertEqual(told(script, saying), ("void",))

    def test_no_deeds_tell_nothing_but_of_a_name_and_itself(self):
        for saying in sayings(("a", "b")):
            alone = len(saying) == 3 and saying[1] == saying[2]
            self.assertEqual(told((), saying)[0], "never" if alone else "open")

    def test_names_that_the_script_makes(self):
        script = (("put", "n", "a"), ("wrap", "n", "m"))
        for saying, word in ((("child", "n", "m"), "sure"), (("child", "m", "a"), "sure"), (("bare", "n"), "sure"),
                             (("last", "m"), "sure"), (("first", "m"), "open"), (("root", "m"), "never"),
                             (("next", "b", "m"), "open"), (("bare", "a"), "never"), (("root", "a"), "open")):
            self.assertEqual(told(script, saying)[0], word, saying)
        self.assertEqual(told((("cut", "a"),), ("root", "a")), ("never",))
        self.assertEqual(told((("put", "n", "a"), ("cut", "n")), ("bare", "n")), ("never",))

    def test_the_node_beside_has_a_name_of_its_own(self):
        for name in "xyzuvwab":
            found = told((("put", name, "k"), ("cut", name)), ("bare", "k"))
            self.assertEqual((found[0], paths(found[1]), len(paths(found[2]))), ("open", {"k": (0,)}, 2))
            self.assertNotIn(name, paths(found[2]))
            found = told((("front", name),), ("bare", name))
            self.assertEqual(len(paths(found[2])), 2)

    def test_no_script(self):
        rows = ((None, (None, "script")), ([], (None, "script")), ((("front", "A"),), (0, "name")),
                ((("front", "a"), ("root", "a")), (1, "deed")), ((("front", "a"),) * 13, (None, "script")),
                (tuple(("front", name) for name in "abcde"), (None, "old")),
                (tuple(("put", name, "a") for name in "wxyz"), (None, "new")))
        for script, error in rows:
            for saying in (None, ("root", "A"), ("root", "a")):
                self.assertEqual(self.refused(BadScript, told, script, saying).error, error)
        for value in ODD:
            if value != ():
                self.refused(BadScript, told, value, None)

    def test_too_many_old_names(self):
        script = (("last", "a", "b"), ("last", "c", "d"), ("put", "n", "a"))
        self.assertEqual(self.refused(TooMany, told, script, ("root", "e")).limit, MAX_OLD)
        self.assertEqual(self.refused(TooMany, told, script, ("child", "a", "e")).limit, MAX_OLD)
        self.assertEqual(self.refused(TooMany, told, (("swap", "a", "b"), ("cut", "c")), ("next", "d", "e")).limit, 4)
        self.assertEqual(told(script, ("child", "n", "a")), ("sure",))
        self.assertEqual(told((("swap", "a", "b"),), ("child", "c", "d"))[0], "open")

    def test_too_many_comes_last(self):
        script = (("last", "a", "b"), ("last", "c", "d"))
        self.assertEqual(self.refused(BadWish, told, script, ("child", "e", 1)).error, ((), "name"))
        self.assertEqual(self.refused(BadWish, told, script, ("child", "e")).error, ((), "wish"))
        self.refused(BadScript, told, script + (None,), ("root", "e"))

    def test_equal_calls_give_equal_results_and_change_nothing(self):
        script, saying = (("last", "a", "b"),), ("first", "a")
        self.assertEqual(told(script, saying), told(tuple(list(script)), tuple(list(saying))))
        value = ["root", ["a"]]
        self.refused(BadWish, holds, value, W)
        self.refused(BadWish, told, (), (value, value))
        self.assertEqual(value, ["root", ["a"]])
