"""[13]: plan, against all scripts of fewer deeds and all small woods."""

from itertools import permutations, product

from tests.other_ways import all_deeds, plain_new_names, plain_script, plain_so, stopped, wish_names
from tests.samples import ODD, Case, all_woods, nested_list
from twigscripts.bounds import MAX_FEW, MAX_SHORT
from twigscripts.deeds import script_error
from twigscripts.errors import BadNames, BadWish, TooMany
from twigscripts.short import plan

A, B, C = ("here", "a"), ("here", "b"), ("here", "c")
ANY = ("or", A, ("not", A))
LEAVES = [A, ("in", "a", "b"), ("in", "b", "a"), ("ahead", "a", "b"), ("ahead", "b", "a"), ("in", "a", "a"), B]
WISHES = LEAVES + [("not", leaf) for leaf in LEAVES] + [
    ("and", ("not", LEAVES[1]), ("not", LEAVES[2])), ("or", LEAVES[1], LEAVES[3]), ("and", A, ("not", B)),
    ("and", ("not", A), ("not", B)),
]
# a lies in b, b in c; and a is ahead of b, b of c.
CHAIN = ("and", ("in", "a", "b"), ("in", "b", "c"))
ROW = ("and", ("ahead", "a", "b"), ("ahead", "b", "c"))


class Plan(Case):

    def leads(self, ahead, script, behind, woods):
        """Whether a script does on each wood on which one wish is so, and makes the other one so."""
        for wood in woods:
            if plain_so(ahead, wood):
                result = plain_script(wood, script)
                if stopped(result) or not plain_so(behind, result):
                    return False
        return True

    def right(self, ahead, behind, names=(), extra=0):
        """The number of deeds of the plan, None if there is none: rightly so."""
        found = plan(ahead, behind, names=names)
        known = sorted(wish_names(ahead) | wish_names(behind) | set(names))
        woods = all_woods(known + ["x", "y"][:extra])
        if found is not None:
            self.assertIs(script_error(found), None)
            self.assertEqual(plain_new_names(found), [], found)
            self.assertLessEqual({name for deed in found for name in deed[1:]}, set(known))
            self.assertLessEqual(len(found), MAX_SHORT)
            self.assertTrue(self.leads(ahead, found, behind, woods), (ahead, found, behind))
        for fewer in range(MAX_SHORT + 1 if found is None else len(found)):
            for other in product(all_deeds(known), repeat=fewer):
                if not plain_new_names(other):
                    self.assertFalse(self.leads(ahead, other, behind, woods), (ahead, other, behind))
        return found if found is None else len(found)

    def test_pairs_of_wishes(self):
        many = {self.right(ahead, behind) for ahead, behind in product(WISHES, repeat=2)}
        self.assertEqual(many, {0, 1, 2, None})

    def test_one_node_more(self):
        for ahead, behind in list(product(WISHES, repeat=2))[::9]:
            self.right(ahead, behind, (), 1)

    def test_no_deed_is_enough(self):
        for ahead, behind in ((A, A), (A, ANY), (("in", "a", "b"), ("not", ("ahead", "a", "b"))), (B, A),
                              (("not", A), ("in", "a", "b")), (("in", "a", "a"), CHAIN), (CHAIN, ("in", "a", "c")),
                              (ROW, ("ahead", "a", "c"))):
            self.assertEqual(plan(ahead, behind), (), (ahead, behind))
            self.assertEqual(self.right(ahead, behind), 0)

    def test_one_deed_is_enough(self):
        for ahead, behind in ((("in", "a", "b"), ("in", "b", "a")), (A, ("not", A)),
                              (("ahead", "a", "b"), ("in", "a", "b")), (A, ("not", ("in", "a", "b"))),
                              (("not", ("in", "b", "a")), ("in", "a", "b")),
                              (CHAIN, ("in", "c", "a")), (ROW, ("ahead", "b", "a"))):
            self.assertEqual(self.right(ahead, behind), 1, (ahead, behind))

    def test_two_deeds_are_enough(self):
        for ahead, behind in ((A, ("in", "a", "b")), (A, ("ahead", "a", "b")), (ROW, CHAIN),
                              (A, ("and", ("not", A), ("not", B)))):
            self.assertEqual(self.right(ahead, behind), 2, (ahead, behind))

    def test_no_plan_is_enough(self):
        for ahead, behind in ((A, ("in", "a", "a")), (A, ("and", A, ("not", A))),
                              (("in", "a", "b"), ("ahead", "b", "b")), (ANY, CHAIN), (ANY, ROW),
                              (A, ("and", ("not", A), ("and", ("not", B), ("not", C))))):
            self.assertIs(self.right(ahead, behind), None, (ahead, behind))

    def test_the_document(self):
        found = plan(("in", "a", "b"), ("in", "b", "a"))
        self.assertEqual(len(found), 1)
        self.assertEqual(self.right(("in", "a", "b"), ("in", "b", "a"), (), 2), 1)

    def test_a_name_that_goes_away_and_is_made_again_is_old(self):
        for ahead, behind, only in (
                (("in", "c", "b"), ("and", ("in", "a", "b"), ("in", "a", "c")), (("lift", "a"), ("put", "a", "c"))),
                (("ahead", "c", "a"), ("and", ("in", "a", "b"), ("and", ("not", ("in", "c", "b")),
                 ("not", ("ahead", "b", "c")))), (("lift", "b"), ("wrap", "a", "b")))):
            self.assertEqual(self.right(ahead, behind), 2)
            self.assertEqual(plan(ahead, behind), only)

    def test_no_name_is_new(self):
        # b goes away with c, so that it could be made again: but then it would be a new name.
        ahead, behind = ("and", ("in", "b", "c"), ("not", ("in", "a", "c"))), ("and", ("in", "a", "b"), ("not", C))
        woods = all_woods(("a", "b", "c"))
        self.assertTrue(self.leads(ahead, (("cut", "c"), ("wrap", "a", "b")), behind, woods))
        self.assertIs(self.right(ahead, behind), None)

    def test_further_names(self):
        self.assertEqual(self.right(A, A, ("b", "c")), 0)
        self.assertEqual(self.right(("in", "a", "b"), ("in", "b", "a"), ("c",)), 1)
        self.assertEqual(self.right(A, ("not", A), ("b",)), 1)
        self.assertEqual(self.right(("not", A), ("in", "a", "a"), ("b", "c")), 0)
        self.assertEqual(plan(A, ("not", A), names=("a", "b")), plan(A, ("not", A), names=("b",)))

    def test_further_names_are_there_in_each_wood(self):
        self.assertEqual(self.right(B, ("not", ("in", "b", "b")), ("c",)), 0)
        self.assertEqual(self.right(("not", C), ("in", "a", "a")), 0)
        self.assertEqual(self.right(("and", A, ("not", C)), ("in", "a", "a"), ("b",)), 0)
        self.assertIs(self.right(A, ("in", "a", "a"), ("b",)), None)

    def test_the_same_name_twice(self):
        for names in (("a", "a"), ("b", "b", "b"), ("c",) * 20, ("a", "b", "c") * 5, ("a", "b", "a")):
            for behind in (A, ("in", "a", "b"), ("not", A)):
                self.assertEqual(plan(A, behind, names=names), plan(A, behind, names=tuple(sorted(set(names)))))

    def test_names_are_passed_by_keyword_alone(self):
        with self.assertRaises(TypeError):
            plan(A, B, ("c",))

    def test_the_names_play_no_part(self):
        for ahead, behind in ((("in", "a", "b"), ("in", "b", "a")), (("in", "a", "b"), ("ahead", "a", "b")), (A, B)):
            lengths = set()
            for one, two in permutations(("zz", "k", "abcdefgh"), 2):
                told = [tuple({"a": one, "b": two}.get(item, item) for item in wish) for wish in (ahead, behind)]
                found = plan(*told)
                lengths.add(found and len(found))
            self.assertEqual(len(lengths), 1)

    def test_names_that_are_no_tuple_of_names(self):
        rows = [None, True, False, 0, 3, "", "c", "bc", [], ["c"], {}, {"c": 1}, nested_list(100)]
        for value in ODD:
            rows += [(value,), ("c", value), (value, value)]
        for value in rows:
            self.refused(BadNames, plan, A, B, names=value)
        self.refused(BadNames, plan, CHAIN, ("here", "d"), names=["e"])

    def test_more_than_three_names(self):
        for ahead, behind, names in ((CHAIN, ("here", "d"), ()), (A, B, ("c", "d")), (A, A, ("b", "c", "d")),
                                     (CHAIN, CHAIN, ("d",)), (("in", "a", "b"), ("in", "c", "d"), ())):
            self.assertEqual(self.refused(TooMany, plan, ahead, behind, names=names).limit, MAX_FEW)
        self.assertEqual(plan(CHAIN, ("in", "a", "c"), names=("a", "b", "c")), ())

    def test_errors_in_their_order(self):
        bad = (None, ((), "wish")), (("in", "a", "B"), ((), "name")), (("not", ("here",)), ((0,), "wish"))
        for ahead, error in bad:
            for behind, names in product((None, B, ("here", 1)), ((), None, tuple("abcd"))):
                self.assertEqual(self.refused(BadWish, plan, ahead, behind, names=names).error, error)
        for behind, error in bad:
            for ahead, names in product((A, ("and", CHAIN, ("here", "d"))), ((), None, tuple("abcd"))):
                self.assertEqual(self.refused(BadWish, plan, ahead, behind, names=names).error, error)
        self.refused(BadNames, plan, CHAIN, ("here", "d"), names=("e", "E"))
        self.refused(TooMany, plan, CHAIN, ("here", "d"), names=("e", "f"))

    def test_odd_wishes(self):
        for value in ODD + (nested_list(100),):
            self.assertEqual(self.refused(BadWish, plan, value, A).error, ((), "wish"))
            self.assertEqual(self.refused(BadWish, plan, A, value).error, ((), "wish"))
        deep = A
        for _ in range(5):
            deep = ("not", deep)
        self.assertEqual(self.refused(BadWish, plan, deep, A).error, ((), "deep"))
        self.assertEqual(self.refused(BadWish, plan, A, deep).error, ((), "deep"))

    def test_equal_calls_give_equal_results(self):
        self.assertEqual(plan(A, ("in", "a", "b")), plan(tuple(list(A)), ("in", "a", "b"), names=()))
