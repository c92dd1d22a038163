"""[15]: scripts as objects."""

from itertools import product

from tests.samples import BUSY, ODD, V, W, Case, all_woods, deep, nested_list, wide
from twigscripts.deeds import do_script, new_names, old_names, script_error
from twigscripts.errors import BadScript, BadText, BadWood, Clash, Stopped, TooMany, Unlike
from twigscripts.gardens import Garden
from twigscripts.pairs import alike, within
from twigscripts.scripts import Script
from twigscripts.woods import wood_error

FRONT, CUT, PUT = ("front", "a"), ("cut", "b"), ("put", "n", "a")
SAMPLES = [(), (FRONT,), (FRONT, CUT), (PUT, ("last", "n", "b")), (("wrap", "a", "n"), ("swap", "a", "b")), (CUT,) * 12,
           (("put", "x", "b"), ("put", "y", "x"), ("put", "z", "a"), ("last", "c", "d"))]
BAD_SCRIPTS = (
    (None, (None, "script")), ([], (None, "script")), ([FRONT], (None, "script")), (FRONT, (0, "deed")),
    ((FRONT, ("front", "A")), (1, "name")), ((CUT,) * 13, (None, "script")), ("front a", (None, "script")),
    (tuple(("front", name) for name in "abcde"), (None, "old")),
    (tuple(("put", name, "a") for name in "wxyz"), (None, "new")),
)
# Neither a Script nor a tuple.
NO_SIDES = (None, True, False, 0, 1, 2, 10 ** 39, "", "front a", [], [FRONT], {}, {"a": 1}, nested_list(100), Garden(W))


def plus(one, other):
    return one + other


def times(one, other):
    return one * other


class Made(Case):

    def test_what_it_tells_of_itself(self):
        for deeds in SAMPLES:
            script = Script(deeds)
            self.assertEqual(script.deeds, deeds)
            self.assertEqual((script.old, script.new), (old_names(deeds), new_names(deeds)))
            self.assertEqual(len(script), len(deeds))
        self.assertEqual(Script().deeds, ())
        self.assertEqual((len(Script()), Script().old, Script().new), (0, (), ()))
        script = Script((PUT, ("last", "n", "b")))
        self.assertEqual((script.old, script.new, len(script)), (("a", "b"), ("n",), 2))

    def test_it_never_changes(self):
        script = Script((FRONT,))
        for name in ("deeds", "old", "new"):
            with self.assertRaises(AttributeError):
                setattr(script, name, ())
        twice = script
        twice += script
        twice = twice * 2
        self.assertEqual((script.deeds, len(twice)), ((FRONT,), 4))
        self.refused(Stopped, script, ())
        self.refused(Unlike, plus, script, 1)
        self.assertEqual(script.deeds, (FRONT,))

    def test_what_is_no_script(self):
        for value, error in BAD_SCRIPTS:
            self.assertEqual(self.refused(BadScript, Script, value).error, error)
        for value in ODD + (nested_list(100), Script(), Script((FRONT,)), Garden()):
            if value != ():
                self.assertEqual(self.refused(BadScript, Script, value).error, script_error(value))
                self.refused(BadScript, Script, (FRONT, value))

    def test_it_is_no_script_as_a_value(self):
        self.assertEqual(script_error(Script()), (None, "script"))
        self.assertEqual(script_error((Script(),)), (0, "deed"))

    def test_names_in_it(self):
        for deeds in SAMPLES:
            names = {name for deed in deeds for name in deed[1:]}
            for value in ["a", "b", "c", "d", "n", "x", "y", "z", "u", "front", "put", "", "ab"]:
                self.assertIs(value in Script(deeds), value in names)
            for value in ODD + (nested_list(100), FRONT, deeds, Script(deeds), ("a",)):
                self.assertIs(value in Script(deeds), False)
                self.assertIs(value not in Script(deeds), True)

    def test_str(self):
        self.assertEqual(str(Script()), "-")
        self.assertEqual(str(Script((PUT, ("last", "n", "b")))), "put n a; last n b")
        for deeds in SAMPLES:
            self.assertEqual(Script.of_text(str(Script(deeds))), Script(deeds))


class PutTogether(Case):

    def test_plus(self):
        for one, other in product(SAMPLES[:5], repeat=2):
            for found in (Script(one) + Script(other), Script(one) + other, one + Script(other)):
                self.assertIsInstance(found, Script)
                self.assertEqual(found.deeds, one + other)

    def test_plus_of_anything_else(self):
        for value in NO_SIDES:
            for script in (Script(), Script((FRONT,)), Script((CUT,) * 12)):
                self.refused(Unlike, plus, script, value)
                self.refused(Unlike, plus, value, script)

    def test_plus_that_is_no_script(self):
        front = Script((FRONT,))
        for other, error in ((tuple(ODD), (None, "script")), ((None,), (1, "deed")), (FRONT, (1, "deed")),
                             ((("cut", "A"),), (1, "name")), ((CUT,) * 12, (None, "script")),
                             (tuple(("cut", name) for name in "bcde"), (None, "old")),
                             (tuple(("put", name, "a") for name in "wxyz"), (None, "new"))):
            self.assertEqual(self.refused(BadScript, plus, front, other).error, error)
        self.assertEqual(self.refused(BadScript, plus, (None,), front).error, (0, "deed"))
        self.assertEqual(self.refused(BadScript, plus, (FRONT, []), front).error, (1, "deed"))
        self.assertEqual(self.refused(BadScript, plus, (CUT,) * 12, front).error, (None, "script"))
        self.assertEqual(self.refused(BadScript, plus, front, Script((CUT,) * 12)).error, (None, "script"))
        four = Script((("last", "a", "b"), ("last", "c", "d")))
        self.assertEqual(self.refused(BadScript, plus, four, Script((("cut", "e"),))).error, (None, "old"))
        three = Script(tuple(("put", name, "a") for name in "xyz"))
        self.assertEqual(self.refused(BadScript, plus, three, Script((("put", "w", "b"),))).error, (None, "new"))

    def test_names_that_are_new_in_the_one_are_old_in_the_other(self):
        whole = Script((PUT,)) + Script((("cut", "n"),))
        self.assertEqual((whole.old, whole.new), (("a",), ("n",)))
        whole = Script((("cut", "n"),)) + (PUT,)
        self.assertEqual((whole.old, whole.new), (("a", "n"), ()))

    def test_times(self):
        for deeds in SAMPLES[:5]:
            for many in range(13):
                if many * len(deeds) <= 12:
                    for found in (Script(deeds) * many, many * Script(deeds)):
                        self.assertIsInstance(found, Script)
                        self.assertEqual(found.deeds, deeds * many)
                else:
                    self.assertEqual(self.refused(BadScript, times, Script(deeds), many).error, (None, "script"))
                    self.assertEqual(self.refused(BadScript, times, many, Script(deeds)).error, (None, "script"))

    def test_times_what_is_no_integer_from_0_to_12(self):
        for value in (None, True, False, -1, 13, 14, 10 ** 39, -10 ** 39, "", "2", (), (2,), (FRONT,), [], [2], {},
                      Script(), Script((FRONT,)), Garden()):
            for script in (Script(), Script((FRONT,)), Script((CUT,) * 12)):
                self.refused(Unlike, times, script, value)
                self.refused(Unlike, times, value, script)

    def test_the_document(self):
        s = Script((FRONT,))
        self.assertEqual(len((CUT,) + s * 2), 3)
        self.assertIs(s.parts(Script()) is None, False)
        self.assertIs("a" in s, True)
        self.assertIs(s.is_within(s + s), True)
        self.assertEqual(str(s + s), "front a; front a")


class Equal(Case):

    def test_against_other_scripts(self):
        for one, other in product(SAMPLES, repeat=2):
            self.assertIs(Script(one) == Script(other), one == other)
            self.assertIs(Script(one) != Script(other), one != other)
        self.assertIs(Script((FRONT,)) == Script((FRONT, FRONT)), False)

    def test_against_any_value(self):
        for deeds in SAMPLES:
            for value in ODD + NO_SIDES + (deeds, list(deeds), str(Script(deeds)), W):
                self.assertIs(Script(deeds) == value, False)
                self.assertIs(value == Script(deeds), False)
                self.assertIs(Script(deeds) != value, True)


class Called(Case):

    def test_it_does_what_do_script_does(self):
        for deeds in SAMPLES:
            for wood in all_woods(("a", "b")) + [W, V, BUSY, (), wide(120), deep(40)]:
                try:
                    expected = do_script(wood, deeds)
                except Stopped as error:
                    found = self.refused(Stopped, Script(deeds), wood)
                    self.assertEqual((found.index, found.word), (error.index, error.word))
                else:
                    self.assertEqual(Script(deeds)(wood), expected)

    def test_what_is_no_wood(self):
        for value in ODD + (nested_list(100), Script(), Garden(W), (("a", ()), ("a", ()))):
            error = wood_error(value)
            for script in (Script(), Script((FRONT,)), Script((("cut", "u"),))):
                if error is not None:
                    self.assertEqual(self.refused(BadWood, script, value).error, error)

    def test_woods_that_are_greater_than_what_is_passed(self):
        for script in (Script(), Script((("cut", "u"),))):
            self.assertEqual(self.refused(BadWood, script, wide(121)).error, "many")
            self.assertEqual(self.refused(BadWood, script, deep(41)).error, "deep")
        result = do_script(deep(40), (("wrap", "naa", "x"),))
        self.assertEqual(self.refused(BadWood, Script(), result).error, "deep")
        self.assertEqual(Script((("wrap", "naa", "x"),))(deep(40)), result)
        self.assertEqual(len(Script((("put", "x", "naa"), ("put", "y", "x")))(wide(120))), 120)


class AgainstOthers(Case):

    def test_parts_and_is_within(self):
        for one, other in product(SAMPLES[:6], repeat=2):
            try:
                expected = (alike(one, other), within(one, other) is None)
            except Clash as error:
                self.assertEqual(self.refused(Clash, Script(one).parts, Script(other)).name, error.name)
                self.assertEqual(self.refused(Clash, Script(one).is_within, Script(other)).name, error.name)
            else:
                for _ in range(2):
                    self.assertEqual(Script(one).parts(Script(other)), expected[0])
                    self.assertIs(Script(one).is_within(Script(other)), expected[1])

    def test_asked_again(self):
        one, other = Script((FRONT,)), Script((("back", "a"),))
        self.assertEqual(one.parts(other), one.parts(other))
        self.assertIs(one.is_within(other), False)
        self.assertIs(one.is_within(one), True)
        self.assertIs(one.parts(one), None)
        self.assertEqual(one.deeds, (FRONT,))

    def test_errors_of_section_4(self):
        four = Script((("last", "a", "b"), ("last", "c", "d")))
        for ask in (four.parts, four.is_within):
            self.assertEqual(self.refused(TooMany, ask, Script((("cut", "e"),))).limit, 4)
            self.assertEqual(self.refused(Clash, ask, Script((("put", "a", "e"),))).name, "a")

    def test_what_is_no_script_object(self):
        for script in (Script(), Script((FRONT,))):
            for value in ODD + NO_SIDES + ((FRONT,), W):
                self.refused(Unlike, script.parts, value)
                self.refused(Unlike, script.is_within, value)


class OfText(Case):

    def test_of_text(self):
        for text in ("-", "front a", "last a b; cut c", "put n a; wrap a m; turn n m"):
            found = Script.of_text(text)
            self.assertIsInstance(found, Script)
            self.assertEqual(str(found), text)

    def test_wrong_texts(self):
        for text, place in (("", 0), ("front", 5), ("front a;", 8), ("front a ;", 7), ("in(a b)", 0), ("front A", 6),
                            ("cut abcdefghi", 12), ("--", 1), (" front a", 0)):
            self.assertEqual(self.refused(BadText, Script.of_text, text).position, place)
        for value in (None, True, 0, (), (FRONT,), [], {}, Script()):
            self.assertIs(self.refused(BadText, Script.of_text, value).position, None)

    def test_texts_of_no_script(self):
        for text, error in (("; ".join(["cut a"] * 13), (None, "script")),
                            ("cut a; cut b; cut c; cut d; cut e", (None, "old")),
                            ("put w a; put x a; put y a; put z a", (None, "new"))):
            self.assertEqual(self.refused(BadScript, Script.of_text, text).error, error)
