"""[7]: skeletons, effect and by_table."""

from itertools import permutations

from tests.other_ways import all_deeds, plain_script, stopped
from tests.samples import BUSY, ODD, V, W, Case, all_woods, deep, nested_list, paths, plain_row, wide
from twigscripts.bounds import MAX_OLD
from twigscripts.deeds import do_script, new_names, old_names
from twigscripts.errors import BadNames, BadScript, Clash, NoName, Stopped, TooMany
from twigscripts.tables import by_table, effect, skeletons
from twigscripts.woods import filled, wood_of

NO_TUPLES = (None, True, False, 0, 4, "", "a", "ab", [], ["a"], {}, {"a": 1}, nested_list(100))
SCRIPTS = [(deed,) for deed in all_deeds("ab") + [("put", "n", "a"), ("wrap", "b", "n")]] + [
    (), (("put", "n", "a"), ("last", "b", "n"), ("wrap", "n", "m")), (("wrap", "a", "n"), ("pour", "n", "b")),
    (("cut", "a"), ("put", "a", "b")), (("lift", "a"), ("wrap", "b", "a"), ("swap", "a", "c")),
    (("turn", "a", "b"), ("last", "a", "c")), (("cut", "c"), ("front", "a")), (("swap", "a", "b"), ("swap", "c", "d")),
    (("last", "a", "b"), ("last", "b", "c"), ("last", "c", "d")), (("pour", "a", "b"), ("lift", "c"), ("cut", "d")),
]


def leaf(number):
    name = "leaf" + "abcdefghijkl"[number]
    return ("+" + name, "-" + name)


class Skeletons(Case):

    def test_how_many_there_are(self):
        self.assertEqual([len(skeletons(tuple("abcd"[:many]))) for many in range(5)], [1, 1, 4, 30, 336])
        self.assertEqual(skeletons(()), ((),))
        self.assertEqual(skeletons(("abcdefgh",)), ((("abcdefgh", ()),),))

    def test_all_of_them_ascending_by_rows(self):
        for names in ((), ("a",), ("b", "a"), ("c", "ab", "a"), ("d", "b", "zz", "z")):
            found = skeletons(names)
            self.assertEqual(list(found), sorted(all_woods(names), key=plain_row))
            self.assertIsInstance(found, tuple)

    def test_two_names_by_hand(self):
        a, b = ("a", ()), ("b", ())
        self.assertEqual(skeletons(("a", "b")), ((("a", (b,)),), (a, b), (("b", (a,)),), (b, a)))

    def test_the_order_of_the_names_plays_no_part(self):
        for many in range(5):
            names = ("b", "c", "a", "ab")[:many]
            for other in permutations(names):
                self.assertEqual(skeletons(other), skeletons(names))

    def test_what_is_no_tuple_of_so_many_names(self):
        for value in NO_TUPLES + (tuple("abcde"), ("a", "a"), ("a", "b", "c", "a"), ("a", "b", "b", "a", "c")):
            self.refused(BadNames, skeletons, value)

    def test_odd_items(self):
        for value in ODD:
            for names in ((value,), ("a", value), (value, "a", "b"), (value, value)):
                self.refused(BadNames, skeletons, names)


class Effect(Case):

    def test_the_document(self):
        self.assertEqual(effect((("front", "a"),)), ((("+a", "-a"), ("does", ("+a", 1, "-a", 0, 2))),))
        self.assertEqual(len(effect((("last", "a", "b"),), names=("c",))), 30)
        self.assertEqual(effect((("cut", "b"), ("lift", "b"))), ((("+b", "-b"), ("stops", 1, "gone")),))

    def test_the_rows_are_those_of_the_skeletons(self):
        for script in SCRIPTS:
            rows = [row for row, _ in effect(script)]
            self.assertEqual(rows, [plain_row(wood) for wood in skeletons(old_names(script))])

    def test_templates_against_a_leaf_in_each_gap(self):
        for script in SCRIPTS:
            for row, result in effect(script):
                wood = wood_of(row)
                full = filled(wood, tuple(leaf(gap) for gap in range(len(row) + 1)))
                expected = plain_script(full, script)
                if stopped(expected):
                    self.assertEqual(result, ("stops",) + expected)
                    continue
                word, template = result
                told = [(item,) if isinstance(item, str) else leaf(item) for item in template]
                self.assertEqual((word, wood_of(sum(told, ()))), ("does", expected))

    def test_values_are_plain(self):
        table = effect((("wrap", "a", "n"), ("lift", "b")))
        self.assertIsInstance(table, tuple)
        for row, result in table:
            self.assertEqual((type(row), type(result), type(result[1])), (tuple, tuple, tuple))
            self.assertEqual({type(item) for item in result[1]}, {str, int})

    def test_the_empty_script(self):
        self.assertEqual(effect(()), (((), ("does", (0,))),))
        self.assertEqual(effect((), names=("a",)), ((("+a", "-a"), ("does", (0, "+a", 1, "-a", 2))),))

    def test_each_deed_by_hand(self):
        row = ("+a", "-a", "+b", "-b")
        rows = ((("last", "a", "b"), (0, 2, "+b", 3, "+a", 1, "-a", "-b", 4)),
                (("first", "b", "a"), (0, "+a", "+b", 3, "-b", 1, "-a", 2, 4)),
                (("ahead", "b", "a"), (0, "+b", 3, "-b", "+a", 1, "-a", 2, 4)),
                (("behind", "a", "b"), (0, 2, "+b", 3, "-b", "+a", 1, "-a", 4)),
                (("swap", "a", "b"), (0, "+b", 3, "-b", 2, "+a", 1, "-a", 4)),
                (("turn", "a", "b"), (0, "+b", 1, "-b", 2, "+a", 3, "-a", 4)),
                (("pour", "a", "b"), (0, "+a", "-a", 2, "+b", 3, 1, "-b", 4)))
        for deed, template in rows:
            self.assertEqual(dict(effect((deed,)))[row], ("does", template), deed)
        one = ("+a", "-a")
        for script, template in (((("back", "a"),), (0, 2, "+a", 1, "-a")), ((("lift", "a"),), (0, 1, 2)),
                                 ((("cut", "a"),), (0, 2)), ((("wrap", "a", "n"),), (0, "+n", "+a", 1, "-a", "-n", 2)),
                                 ((("put", "n", "a"),), (0, "+a", 1, "+n", "-n", "-a", 2))):
            self.assertEqual(effect(script), ((one, ("does", template)),))

    def test_names_that_are_old_already_or_twice(self):
        script = (("last", "a", "b"),)
        for names in ((), ("a",), ("b", "a"), ("a", "a", "b", "a")):
            self.assertEqual(effect(script, names=names), effect(script))
        self.assertEqual(effect(script, names=("d", "c", "d", "c", "a")), effect(script, names=("c", "d")))
        self.assertEqual(len(effect((), names=tuple("abcd") * 5)), 336)


class EffectRefused(Case):

    def bad(self, error_class, script, names):
        return self.refused(error_class, lambda value: effect(value, names=names), script)

    def test_no_script(self):
        rows = ((None, (None, "script")), ([], (None, "script")), (("front", "a"), (0, "deed")),
                ((("front", "a"), ("front", "A")), (1, "name")), ((("front", "a"),) * 13, (None, "script")),
                (tuple(("front", name) for name in "abcde"), (None, "old")),
                (tuple(("put", name, "a") for name in "wxyz"), (None, "new")))
        for script, error in rows:
            for names in ((), None, ("x",), tuple("abcde")):
                self.assertEqual(self.bad(BadScript, script, names).error, error)

    def test_odd_values_for_a_script(self):
        for value in ODD:
            if value != ():
                self.refused(BadScript, effect, value)

    def test_no_names(self):
        script = (("put", "n", "a"),)
        for names in NO_TUPLES:
            self.bad(BadNames, script, names)
        for value in ODD:
            for names in ((value,), ("n", value), (value, "n"), ("b", "c", "d", "e", value)):
                self.bad(BadNames, script, names)

    def test_clash_with_the_first_of_the_names(self):
        script = (("put", "n", "a"), ("wrap", "a", "m"))
        for names, name in ((("n",), "n"), (("n", "m"), "n"), (("b", "n", "m"), "n"), (("m", "n"), "m"),
                            (("b", "c", "d", "e", "m"), "m")):
            self.assertIs(self.bad(Clash, script, names).name, name)

    def test_too_many(self):
        for script, names in (((), tuple("abcde")), ((("front", "a"),), tuple("bcde")),
                              ((("last", "a", "b"), ("last", "c", "d")), ("e",)),
                              ((("put", "n", "a"),), ("b", "c", "b", "d", "e"))):
            self.assertEqual(self.bad(TooMany, script, names).limit, MAX_OLD)

    def test_arguments_stay_as_they_are(self):
        script, names = [("front", "a")], ["b", ["c"]]
        self.bad(BadScript, script, names)
        self.bad(BadNames, (), names)
        self.assertEqual((script, names), ([("front", "a")], ["b", ["c"]]))


class ByTable(Case):

    def same(self, script, names, wood):
        table = effect(script, names=names)
        expected = plain_script(wood, script)
        if stopped(expected):
            error = self.refused(Stopped, by_table, table, wood)
            self.assertEqual((error.index, error.word), expected)
        else:
            self.assertEqual(by_table(table, wood), expected)
            self.assertEqual(do_script(wood, script), expected)

    def test_the_document(self):
        self.assertEqual(by_table(effect((("swap", "b", "d"),)), W), (("a", (("d", ()), ("c", ()))), ("b", ())))

    def test_against_small_woods_with_other_nodes(self):
        woods = [wood for names in ("abcd", "abc", "abx") for wood in all_woods(names)[::3]] + [W, V, BUSY]
        for script in SCRIPTS:
            for wood in woods:
                names = set(paths(wood))
                if names >= set(old_names(script)) and not names & set(new_names(script)):
                    self.same(script, (), wood)

    def test_with_names_that_the_script_does_not_have(self):
        for script in ((("last", "a", "b"),), (("front", "a"),), (), (("put", "n", "a"), ("cut", "a"))):
            for wood in all_woods("abcd")[::7] + [W, V, BUSY]:
                self.same(script, ("b", "c", "a"), wood)

    def test_great_woods(self):
        two = (("b", ()), ("a", ()))
        for wood in (deep(149, two), (("a", deep(147)), ("b", ())), wide(397) + two,
                     deep(60, (("a", ()),)) + (("b", (("c", ()),)),)):
            self.same((("last", "a", "b"), ("wrap", "a", "n")), (), wood)
            self.same((("last", "a", "b"), ("last", "b", "a")), (), wood)

    def test_names_that_are_not_there(self):
        table = effect((("last", "d", "a"), ("wrap", "c", "x")))
        rows = (((), "a"), ((("a", ()),), "c"), ((("c", ()), ("d", ())), "a"), ((("d", (("a", ()),)),), "c"),
                ((("a", ()), ("c", ())), "d"))
        for wood, name in rows:
            self.assertEqual(self.refused(NoName, by_table, table, wood).name, name)

    def test_no_name_comes_ahead_of_stopped(self):
        table = effect((("cut", "a"), ("lift", "a")), names=("b",))
        self.assertEqual(self.refused(NoName, by_table, table, (("a", ()),)).name, "b")
        error = self.refused(Stopped, by_table, table, (("a", ()), ("b", ())))
        self.assertEqual((error.index, error.word), (1, "gone"))

    def test_equal_calls_give_equal_results(self):
        table = effect((("pour", "a", "d"),))
        for _ in range(2):
            self.assertEqual(by_table(table, W), (("a", ()), ("d", (("b", ()), ("c", ())))))
        self.assertEqual(table, effect((("pour", "a", "d"),)))
