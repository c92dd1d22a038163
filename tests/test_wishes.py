"""[10] and [11]: is_so, sure, keeps and where, against all small woods."""

from itertools import product

from tests.other_ways import plain_script, plain_so, stopped, wish_names
from tests.samples import (
    BUSY, ODD, V, W, Case, all_woods, deep, few_woods, name_at, nested_list, paths, plain_row, wide,
)
from twigscripts.bounds import MAX_OLD
from twigscripts.deeds import new_names, old_names
from twigscripts.errors import BadScript, BadWish, TooMany
from twigscripts.wishes import is_so, keeps, sure, where
from twigscripts.woods import wood_error

HERE = ("here", "a")
TWO = ("or", HERE, HERE)
LEAVES = [("in", "a", "b"), ("in", "b", "a"), ("ahead", "a", "b"), ("here", "a"), ("here", "n"), ("in", "n", "a")]
WISHES = LEAVES + [("not", leaf) for leaf in LEAVES[:4]] + [
    ("and", LEAVES[0], ("here", "n")), ("or", LEAVES[0], LEAVES[2]), ("and", ("not", LEAVES[0]), ("not", LEAVES[1])),
    ("or", ("and", LEAVES[1], HERE), ("not", ("here", "b"))), ("not", ("in", "a", "a")), ("ahead", "a", "a"),
]
SCRIPTS = [
    (), (("last", "a", "b"),), (("front", "a"),), (("swap", "a", "b"),), (("turn", "a", "b"),), (("cut", "b"),),
    (("put", "n", "a"),), (("wrap", "a", "n"), ("last", "n", "b")), (("lift", "a"), ("wrap", "b", "a")),
    (("pour", "a", "b"), ("behind", "a", "b")), (("cut", "a"), ("cut", "a")), (("cut", "n"), ("front", "b")),
]


def all_old(script, *wishes):
    told = set().union(*[wish_names(wish) for wish in wishes])
    return sorted(set(old_names(script)) | told - set(new_names(script)))


def breaks(ahead, script, behind, wood):
    """Whether a wood shows that behind is not sure."""
    result = plain_script(wood, script)
    return plain_so(ahead, wood) and not stopped(result) and not plain_so(behind, result)


class IsSo(Case):

    def test_the_document(self):
        self.assertIs(is_so(("not", ("in", "b", "d")), W), True)

    def test_against_the_places_of_nodes(self):
        names = ("a", "b", "c", "u")
        wishes = [(word, a, b) for word in ("in", "ahead") for a in names for b in names] + [("here", a) for a in names]
        for wood in [W, V] + [wood for wood in few_woods() if len(paths(wood)) <= 3]:
            for wish in wishes:
                self.assertIs(is_so(wish, wood), plain_so(wish, wood), (wish, wood))
                self.assertIs(is_so(("not", wish), wood), not plain_so(wish, wood), (wish, wood))

    def test_and_or_not(self):
        yes, no = ("here", "a"), ("here", "x")
        for one, other in product((yes, no), repeat=2):
            self.assertIs(is_so(("and", one, other), W), one == other == yes)
            self.assertIs(is_so(("or", one, other), W), yes in (one, other))
            self.assertIs(is_so(("and", ("not", one), ("or", other, one)), W), one == no and other == yes)

    def test_names_that_are_not_there_or_alike(self):
        for word in ("in", "ahead"):
            for a, b in (("x", "a"), ("a", "x"), ("x", "y"), ("x", "x"), ("a", "a"), ("b", "b")):
                self.assertIs(is_so((word, a, b), W), False)
        self.assertIs(is_so(("here", "x"), W), False)
        self.assertIs(is_so(("here", "a"), ()), False)
        self.assertIs(is_so(("in", "a", "b"), ()), False)

    def test_each_pair_of_a_greater_wood(self):
        for a, b in product(list(paths(BUSY)) + ["u"], repeat=2):
            for word in ("in", "ahead"):
                self.assertIs(is_so((word, a, b), BUSY), plain_so((word, a, b), BUSY))

    def test_great_woods(self):
        self.assertIs(is_so(("in", name_at(149), name_at(0)), deep(150)), True)
        self.assertIs(is_so(("ahead", name_at(0), name_at(399)), wide(400)), True)
        self.assertIs(is_so(("here", "x"), wide(400)), False)

    def test_more_than_four_names_are_taken(self):
        wish = ("here", "a")
        for name in "bcd":
            wish = ("and", wish, ("here", name))
        self.assertIs(is_so(wish, W), True)
        self.assertIs(is_so(("or", ("and", wish[1], ("in", "e", "f")), ("here", "g")), W), False)
        self.assertIs(is_so(("or", wish[1], ("in", "e", "f")), W), True)

    def test_no_wish(self):
        rows = ((None, ((), "wish")), (("here", "A"), ((), "name")), (("not", ("here",)), ((0,), "wish")),
                (["here", "a"], ((), "wish")), (("and", HERE, ("in", "a", 1)), ((1,), "name")),
                (("not", ("not", ("not", ("not", ("not", HERE))))), ((), "deep")),
                (("and", ("and", TWO, TWO), ("or", TWO, TWO)), ((), "many")))
        for value, error in rows:
            self.assertEqual(self.refused(BadWish, is_so, value, W).error, error)
        for value in ODD + (nested_list(100),):
            self.assertEqual(self.refused(BadWish, is_so, value, W).error, ((), "wish"))


class Sure(Case):

    def right(self, call, ahead, script, behind, *args):
        """What the call returns is None rightly, or shows it with as few nodes as there are."""
        found = call(*args)
        names = all_old(script, ahead, behind)
        if found is not None:
            self.assertIs(wood_error(found), None)
            self.assertEqual(sorted(paths(found)), names, (ahead, script, behind))
            self.assertTrue(breaks(ahead, script, behind, found), (ahead, script, behind, found))
            return found
        for extra in (["x"], ["x", "y"])[:3 - len(names)]:
            for wood in all_woods(names + extra):
                self.assertFalse(breaks(ahead, script, behind, wood), (ahead, script, behind, wood))
        return None

    def test_sure_against_all_small_woods(self):
        kinds = set()
        for ahead, script, behind in product(WISHES, SCRIPTS, WISHES):
            found = self.right(sure, ahead, script, behind, ahead, script, behind)
            kinds.add(found is None)
        self.assertEqual(kinds, {True, False})

    def test_keeps_against_all_small_woods(self):
        for script, wish in product(SCRIPTS, WISHES):
            found = self.right(keeps, wish, script, wish, script, wish)
            self.assertEqual(found, sure(wish, script, wish))

    def test_the_document(self):
        self.assertIs(sure(("here", "a"), (("last", "a", "b"),), ("in", "a", "b")), None)

    def test_by_hand(self):
        self.assertEqual(sure(HERE, (("cut", "a"),), HERE), (("a", ()),))
        self.assertEqual(sure(("ahead", "a", "b"), (("swap", "a", "b"),), ("ahead", "a", "b")), (("a", ()), ("b", ())))
        self.assertIs(sure(("ahead", "a", "b"), (("swap", "a", "b"),), ("ahead", "b", "a")), None)
        self.assertEqual(keeps((("lift", "b"),), ("in", "a", "b")), (("b", (("a", ()),)),))
        self.assertIs(keeps((("front", "b"),), ("in", "a", "b")), None)
        self.assertIs(keeps((("cut", "a"), ("cut", "a")), ("in", "a", "b")), None)

    def test_new_names_of_the_script_are_not_there_ahead(self):
        script = (("put", "n", "a"),)
        self.assertIs(sure(("here", "n"), script, ("not", ("here", "n"))), None)
        self.assertIs(sure(("not", ("here", "n")), script, ("in", "n", "a")), None)
        self.assertEqual(sure(HERE, script, ("not", ("here", "n"))), (("a", ()),))
        self.assertEqual(keeps((("cut", "n"),), ("here", "n")), (("n", ()),))
        self.assertEqual(keeps(script, ("not", ("here", "n"))), (("a", ()),))

    def test_names_of_the_wishes_that_no_deed_has(self):
        self.assertEqual(sorted(paths(sure(("in", "c", "d"), (("front", "a"),), ("ahead", "a", "b")))), list("abcd"))
        self.assertEqual(keeps((("front", "a"),), ("in", "c", "d")), (("d", (("a", (("c", ()),)),)),))
        self.assertIs(keeps((("swap", "a", "b"),), ("here", "c")), None)
        self.assertEqual(keeps((("pour", "a", "b"),), ("in", "c", "a")), (("a", (("c", ()),)), ("b", ())))

    def test_four_names(self):
        script = (("last", "a", "b"), ("last", "c", "d"))
        self.assertIs(sure(("in", "b", "d"), script, ("in", "a", "d")), None)
        one, other = ("ahead", "b", "d"), ("ahead", "a", "d")
        self.right(sure, one, script, other, one, script, other)
        self.right(keeps, one, script, one, script, one)
        found = sure(HERE, script, ("ahead", "a", "d"))
        self.assertTrue(breaks(HERE, script, ("ahead", "a", "d"), found))


class Where(Case):

    def test_the_document(self):
        self.assertEqual(where((("swap", "a", "b"),), ("ahead", "a", "b")), (("+b", "-b", "+a", "-a"),))

    def test_against_all_skeletons(self):
        for script, wish in product(SCRIPTS, WISHES):
            expected = []
            for wood in all_woods(all_old(script, wish)):
                result = plain_script(wood, script)
                if not stopped(result) and plain_so(wish, result):
                    expected.append(plain_row(wood))
            found = where(script, wish)
            self.assertIsInstance(found, tuple)
            self.assertEqual(list(found), sorted(expected), (script, wish))

    def test_by_hand(self):
        self.assertEqual(where((), ("here", "a")), (("+a", "-a"),))
        self.assertEqual(where((), ("not", ("here", "a"))), ())
        self.assertEqual(where((("put", "n", "a"),), ("in", "n", "a")), (("+a", "-a"),))
        self.assertEqual(len(where((), ("in", "c", "c"))), 0)
        self.assertEqual(len(where((("front", "a"),), ("not", ("in", "b", "c")))), 24)


NO_SCRIPTS = ((None, (None, "script")), (("front", "a"), (0, "deed")), ((("front", "A"),), (0, "name")),
              (tuple(("front", name) for name in "abcde"), (None, "old")),
              (tuple(("put", name, "a") for name in "wxyz"), (None, "new")), ([], (None, "script")))
NO_WISHES = ((None, ((), "wish")), (("here", "A"), ((), "name")), (("not", True), ((0,), "wish")), ([], ((), "wish")))
WIDE = ("and", ("in", "a", "b"), ("in", "c", "d"))


class WishesRefused(Case):

    def test_sure_from_left_to_right(self):
        for wish, error in NO_WISHES:
            for script in (None, ()):
                for behind in (0, HERE):
                    self.assertEqual(self.refused(BadWish, sure, wish, script, behind).error, error)
            self.assertEqual(self.refused(BadWish, sure, HERE, (), wish).error, error)
        for script, error in NO_SCRIPTS:
            for behind in (None, HERE):
                self.assertEqual(self.refused(BadScript, sure, HERE, script, behind).error, error)
        self.assertEqual(self.refused(BadWish, sure, ("here",), (), ("here", "A")).error, ((), "wish"))

    def test_keeps_and_where_look_at_the_script_first(self):
        for call in (keeps, where):
            for script, error in NO_SCRIPTS:
                for wish in (None, HERE):
                    self.assertEqual(self.refused(BadScript, call, script, wish).error, error)
            for wish, error in NO_WISHES:
                self.assertEqual(self.refused(BadWish, call, (("front", "a"),), wish).error, error)

    def test_odd_values(self):
        for value in ODD:
            self.refused(BadWish, sure, value, (), HERE)
            self.refused(BadWish, sure, HERE, (), value)
            self.refused(BadWish, keeps, (), value)
            self.refused(BadWish, where, (), value)
            if value != ():
                self.refused(BadScript, sure, HERE, value, HERE)
                self.refused(BadScript, keeps, value, HERE)
                self.refused(BadScript, where, value, HERE)

    def test_too_many_old_names(self):
        e = ("here", "e")
        for args in ((WIDE, (), e), (e, (), WIDE), (WIDE, (("front", "e"),), WIDE), (HERE, (("last", "b", "c"),),
                     ("in", "d", "e")), (WIDE, (("put", "n", "e"),), HERE)):
            self.assertEqual(self.refused(TooMany, sure, *args).limit, MAX_OLD)
        for call in (keeps, where):
            self.assertEqual(self.refused(TooMany, call, (("front", "e"),), WIDE).limit, MAX_OLD)
            self.assertEqual(self.refused(TooMany, call, (), ("or", WIDE, e)).limit, MAX_OLD)

    def test_new_names_do_not_count(self):
        script = (("put", "n", "a"), ("put", "m", "b"))
        wish = ("and", WIDE, ("or", ("in", "n", "a"), ("here", "m")))
        self.assertIs(keeps(script, ("not", wish)) is None, False)
        self.assertEqual(where(script, ("not", ("here", "n"))), ())
        self.assertEqual(len(where(script, WIDE)), len(where((), WIDE)))

    def test_errors_of_arguments_come_ahead_of_too_many(self):
        self.refused(BadWish, sure, WIDE, (("front", "e"),), None)
        self.refused(BadWish, where, (("front", "e"),), ("and", WIDE, None))
        self.refused(BadScript, keeps, (("front", "e"), None), WIDE)

    def test_arguments_stay_as_they_are(self):
        value = ["here", ["a"]]
        self.refused(BadWish, sure, value, (), HERE)
        self.refused(BadScript, keeps, value, HERE)
        self.assertEqual(value, ["here", ["a"]])

    def test_equal_calls_give_equal_results(self):
        for _ in range(2):
            self.assertEqual(sure(HERE, (("last", "a", "b"),), ("ahead", "a", "b")), (("a", ()), ("b", ())))
