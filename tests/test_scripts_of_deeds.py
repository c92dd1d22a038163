"""[6]: deed_error, script_error, old_names, new_names and do_script."""

import unittest
from itertools import product

from tests.other_ways import MAKERS, ONE_OLD, TWO_OLD, WORDS, all_deeds, plain_script, stopped
from tests.samples import BUSY, ODD, V, W, Case, all_woods, deep, name_at, nested_list, wide
from twigscripts.deeds import deed_error, do_deed, do_script, new_names, old_names, script_error
from twigscripts.errors import Stopped

# What can stand in no place of a deed.
ODDER = ODD + (nested_list(100), ["first", "a", "b"], {"first": "a"}, ("first",), "a" * 9)


def deeds_of(names):
    """A deed for each name, which stands in it alone."""
    return tuple(("front", name) for name in names)


class DeedError(unittest.TestCase):

    def test_deeds(self):
        for names in (("a", "b"), ("a", "a"), ("abcdefgh", "zz"), ("here", "first")):
            for word in WORDS:
                deed = (word,) + names[:1 if word in ONE_OLD else 2]
                self.assertIs(deed_error(deed), None, deed)

    def test_no_tuple(self):
        for value in (None, True, False, 0, 1, "", "first", "front a", [], ["front", "a"], {}, {"front": "a"},
                      nested_list(100)):
            self.assertEqual(deed_error(value), "deed", value)

    def test_no_word(self):
        self.assertEqual(deed_error(()), "deed")
        for word in ODDER + ("Front", "front ", "fronts", "move", "in", "child", "a", "+a"):
            for names in ((), ("a",), ("a", "b"), ("a", "b", "c"), ("A", None)):
                self.assertEqual(deed_error((word,) + names), "deed", word)

    def test_too_few_and_too_many_items(self):
        for word in WORDS:
            many = 1 if word in ONE_OLD else 2
            for names in ((), ("a",), ("a", "b"), ("a", "b", "c"), ("a",) * 4, ("A",) * (many + 1), (None,) * 3):
                if len(names) != many:
                    self.assertEqual(deed_error((word,) + names), "deed", (word, names))

    def test_what_is_no_name(self):
        for value in ODDER:
            for word in ONE_OLD:
                self.assertEqual(deed_error((word, value)), "name", (word, value))
            for word in TWO_OLD + MAKERS:
                for names in ((value, "b"), ("a", value), (value, value), (value, "A")):
                    self.assertEqual(deed_error((word,) + names), "name", (word, names))

    def test_arguments_stay_as_they_are(self):
        value = ["front", ["a"]]
        self.assertEqual([deed_error(value), deed_error(("front", value))], ["deed", "name"])
        self.assertEqual(value, ["front", ["a"]])


class ScriptError(unittest.TestCase):

    def test_scripts(self):
        for script in ((), (("front", "a"),), (("put", "x", "x"),), deeds_of("abcd"), deeds_of("abcd") * 3,
                       tuple(("put", n, b) for n, b in zip("xyz", "abc")), (("wrap", "a", "a"),) * 12):
            self.assertIs(script_error(script), None, script)

    def test_no_tuple(self):
        for value in (None, True, False, 0, 12, "", "front a", [], [("front", "a")], {}, {0: ("front", "a")},
                      nested_list(100)):
            self.assertEqual(script_error(value), (None, "script"), value)

    def test_twelve_and_thirteen_deeds(self):
        for deed in (("front", "a"), ("put", "n", "b"), ("turn", "a", "b")):
            self.assertIs(script_error((deed,) * 12), None)
            self.assertEqual(script_error((deed,) * 13), (None, "script"))
        self.assertEqual(script_error((None,) * 12), (0, "deed"))
        self.assertEqual(script_error((None,) * 13), (None, "script"))

    def test_a_deed_itself_is_no_script(self):
        self.assertEqual(script_error(("front", "a")), (0, "deed"))

    def test_the_first_that_is_no_deed(self):
        good, odd, unnamed = ("front", "a"), ("fronts", "a"), ("front", "A")
        rows = (((odd,), (0, "deed")), ((unnamed,), (0, "name")), ((good, odd, unnamed), (1, "deed")),
                ((good, unnamed, odd), (1, "name")), ((good,) * 11 + (odd,), (11, "deed")),
                ((good, ["front", "a"]), (1, "deed")), ((good, True), (1, "deed")), ((good, ()), (1, "deed")))
        for value, error in rows:
            self.assertEqual(script_error(value), error, value)
            self.assertIs(type(script_error(value)[0]), int)

    def test_odd_items_anywhere(self):
        for value in ODDER:
            self.assertEqual(script_error((value,)), (0, "deed"), value)
            self.assertEqual(script_error((("front", "a"), value)), (1, "deed"), value)
            self.assertEqual(script_error((("front", "a"), ("last", "a", value))), (1, "name"), value)
            self.assertEqual(script_error((("front", "a"), (value, "a"))), (1, "deed"), value)

    def test_four_and_five_old_names(self):
        self.assertIs(script_error(deeds_of("abcd")), None)
        self.assertEqual(script_error(deeds_of("abcde")), (None, "old"))
        self.assertEqual(script_error((("last", "a", "b"), ("swap", "c", "d"), ("wrap", "e", "n"))), (None, "old"))
        self.assertIs(script_error((("last", "a", "b"), ("swap", "c", "d"), ("wrap", "d", "e"))), None)

    def test_three_and_four_new_names(self):
        script = (("put", "x", "a"), ("put", "y", "a"), ("put", "z", "a"))
        self.assertIs(script_error(script), None)
        self.assertIs(script_error(script + (("put", "x", "a"), ("wrap", "y", "z"))), None)
        self.assertEqual(script_error(script + (("put", "u", "a"),)), (None, "new"))
        self.assertEqual(script_error(script + (("wrap", "x", "u"),)), (None, "new"))

    def test_several_reasons_at_once(self):
        new = tuple(("put", name, "a") for name in "wxyz")
        old = deeds_of("bcde")
        self.assertEqual(script_error(new + old), (None, "old"))
        self.assertEqual(script_error(old + new), (None, "old"))
        self.assertEqual(script_error(new + old + (("front", "A"),)), (8, "name"))
        self.assertEqual(script_error(new + old + (("front",), ("front", "A"))), (8, "deed"))
        self.assertEqual(script_error((new + old) * 2), (None, "script"))

    def test_arguments_stay_as_they_are(self):
        value = [("front", "a"), ["b"]]
        self.assertEqual([script_error(value), script_error((("front", "a"), value))], [(None, "script"), (1, "deed")])
        self.assertEqual(value, [("front", "a"), ["b"]])


class Names(unittest.TestCase):

    def both(self, script, old, new):
        self.assertEqual((old_names(script), new_names(script)), (tuple(old), tuple(new)), script)

    def test_the_document(self):
        self.both((("put", "x", "a"), ("last", "x", "b")), "ab", "x")
        self.both((("put", "n", "b"),), "b", "n")
        self.both((("cut", "n"),), "n", "")

    def test_each_deed_alone(self):
        for word in ONE_OLD:
            self.both(((word, "b"),), "b", "")
        for word in TWO_OLD:
            self.both(((word, "b", "a"),), "ab", "")
            self.both(((word, "b", "b"),), "b", "")
        self.both((("wrap", "b", "a"),), "b", "a")
        self.both((("put", "b", "a"),), "a", "b")

    def test_no_deeds(self):
        self.both((), "", "")

    def test_made_and_named_behind_that(self):
        self.both((("wrap", "a", "n"), ("cut", "n"), ("put", "n", "b")), "ab", "n")
        self.both((("put", "n", "b"), ("put", "m", "n"), ("wrap", "m", "k")), "b", "kmn")

    def test_named_ahead_of_being_made(self):
        self.both((("cut", "n"), ("put", "n", "b")), "bn", "")
        self.both((("cut", "n"), ("wrap", "b", "n")), "bn", "")
        self.both((("last", "a", "n"), ("lift", "n"), ("wrap", "a", "n")), "an", "")

    def test_one_name_twice_in_a_deed(self):
        self.both((("put", "n", "n"),), "", "n")
        self.both((("wrap", "a", "a"),), "a", "")

    def test_made_by_a_deed_that_names_another_new_name(self):
        self.both((("put", "n", "m"),), "m", "n")
        self.both((("put", "m", "n"), ("put", "n", "m")), "n", "m")

    def test_names_are_ascending(self):
        self.both((("swap", "d", "b"), ("swap", "ab", "a")), ("a", "ab", "b", "d"), "")
        self.both((("put", "zz", "a"), ("put", "z", "a"), ("put", "y", "a")), "a", ("y", "z", "zz"))


class DoScript(Case):

    def test_the_document(self):
        self.assertEqual(do_script(W, (("lift", "a"), ("swap", "b", "d"))), (("d", ()), ("c", ()), ("b", ())))
        error = self.refused(Stopped, do_script, W, (("back", "a"), ("last", "a", "b")))
        self.assertEqual((error.index, error.word), (1, "inside"))

    def test_the_empty_script(self):
        for wood in ((), W, BUSY, wide(120), deep(150)):
            self.assertEqual(do_script(wood, ()), wood)

    def test_all_scripts_of_two_deeds_of_a_few_names(self):
        deeds = all_deeds("ab") + [("put", "n", "a"), ("wrap", "b", "n"), ("cut", "n"), ("last", "a", "n")]
        for place, script in enumerate(product(deeds, repeat=2)):
            wood = SOME_WOODS[place % len(SOME_WOODS)]
            expected = plain_script(wood, script)
            if stopped(expected):
                error = self.refused(Stopped, do_script, wood, script)
                self.assertEqual((error.index, error.word), expected, (wood, script))
            else:
                self.assertEqual(do_script(wood, script), expected, (wood, script))

    def test_deed_by_deed_and_cut_in_two(self):
        script = (("put", "x", "d"), ("last", "b", "x"), ("wrap", "x", "y"), ("swap", "y", "c"), ("lift", "d"),
                  ("turn", "x", "a"), ("pour", "a", "c"), ("ahead", "b", "y"), ("front", "c"), ("cut", "x"))
        wood = W
        for index, deed in enumerate(script):
            self.assertEqual(do_script(W, script[:index]), wood)
            self.assertEqual(do_script(wood, script[index:]), do_script(W, script))
            wood = do_deed(wood, deed)
        self.assertEqual(do_script(W, script), wood)

    def test_index_and_word_of_the_stop(self):
        good = ("front", "d")
        for deed, word in ((("cut", "x"), "gone"), (("put", "a", "b"), "taken"), (("swap", "a", "c"), "inside")):
            for many in range(12):
                error = self.refused(Stopped, do_script, W, (good,) * many + (deed,) + (("cut", "y"),) * (11 - many))
                self.assertEqual((error.index, error.word), (many, word))
                self.assertIs(type(error.index), int)

    def test_a_stop_leaves_the_wood_as_it_was(self):
        wood = (("a", (("b", ()),)),)
        for _ in range(2):
            self.refused(Stopped, do_script, wood, (("lift", "a"), ("wrap", "b", "n"), ("cut", "a")))
            self.assertEqual(wood, (("a", (("b", ()),)),))

    def test_what_is_made_is_there_and_what_is_cut_is_gone(self):
        self.assertEqual(do_script(V, (("cut", "a"), ("put", "b", "c"), ("wrap", "b", "a"))),
                         (("d", (("c", (("a", (("b", ()),)),)),)),))
        error = self.refused(Stopped, do_script, V, (("cut", "a"), ("front", "b")))
        self.assertEqual((error.index, error.word), (1, "gone"))

    def test_great_woods(self):
        names = (name_at(0), name_at(119))
        made = tuple(("put", name, names[0]) for name in "xyz")
        self.assertEqual(do_script(wide(120), made)[0], (names[0], (("x", ()), ("y", ()), ("z", ()))))
        error = self.refused(Stopped, do_script, deep(150), (("front", names[1]), ("last", names[0], names[0])))
        self.assertEqual((error.index, error.word), (1, "inside"))


SOME_WOODS = all_woods("abc") + [(), (("a", ()),), W, V, (("n", ()), ("a", (("b", ()),)))]
