"""[16]: gardens, each method for gardens of all four classes."""

from tests.other_ways import plain_script
from tests.samples import BUSY, ODD, V, W, Case, all_woods, deep, name_at, nested_list, paths, wide
from twigscripts.bounds import MAX_EDITS
from twigscripts.deeds import do_script
from twigscripts.errors import (
    BadDeed, BadScript, BadWish, BadWood, Broken, NoName, NothingToUndo, NoVersion, Stopped, TooManyEdits,
)
from twigscripts.gardens import CarefulGarden, CarefulLoggedGarden, Garden, LoggedGarden
from twigscripts.scripts import Script
from twigscripts.woods import wood_error

CLASSES = (Garden, CarefulGarden, LoggedGarden, CarefulLoggedGarden)
FRONT, BACK, TURN = ("front", "d"), ("back", "a"), ("turn", "a", "b")
STOP = ("last", "a", "b")
WISH = ("in", "b", "a")
BREAK = ("front", "b")


def put(garden, name, parent):
    garden[name] = parent


def take(garden, name):
    return garden[name]


def add(garden, script):
    garden += script
    return garden


def state(garden):
    """All that a garden tells of itself."""
    return (garden.wood, garden.version, garden.wish, garden.edits(), str(garden),
            [garden.wood_before(version) for version in range(garden.version + 1)], getattr(garden, "log", None))


class Kinds(Case):
    """Tests that are done with gardens of each class."""

    def each(self, wood=W):
        return [kind(wood) for kind in CLASSES]

    def same(self, garden, error_class, call, *args):
        """The error that the call raises; the garden stays as it is."""
        before = state(garden)
        error = self.refused(error_class, call, *args)
        self.assertEqual(state(garden), before)
        return error


class Made(Kinds):

    def test_a_new_garden(self):
        for garden in self.each():
            self.assertEqual((garden.wood, garden.version, garden.wish, garden.edits()), (W, 0, None, ()))
            self.assertEqual((len(garden), garden.names(), str(garden)), (4, ("a", "b", "c", "d"), "4 nodes, 0 edits"))
        for kind in CLASSES:
            self.assertEqual((kind().wood, len(kind()), kind().names(), str(kind())), ((), 0, (), "0 nodes, 0 edits"))
            self.assertEqual(kind(()).wood, ())

    def test_what_is_no_wood(self):
        for kind in CLASSES:
            for value in ODD + (nested_list(100), W + W, Garden(W), Script(), "a(b)", wide(121), deep(41)):
                error = wood_error(value)
                if error is not None:
                    self.assertEqual(self.refused(BadWood, kind, value).error, error)

    def test_results_that_are_too_great(self):
        great = do_script(wide(120), (("put", "x", name_at(0)),))
        tall = do_script(deep(40), (("wrap", name_at(0), "x"),))
        for kind in CLASSES:
            self.assertEqual(self.refused(BadWood, kind, great).error, "many")
            self.assertEqual(self.refused(BadWood, kind, tall).error, "deep")
            self.assertEqual(len(kind(wide(120))), 120)
            self.assertEqual(len(kind(deep(40))), 40)

    def test_what_can_only_be_read(self):
        for garden in self.each():
            for name in ("wood", "version", "wish"):
                with self.assertRaises(AttributeError):
                    setattr(garden, name, None)
            self.assertEqual((garden.wood, garden.version, garden.wish), (W, 0, None))

    def test_the_document(self):
        g = Garden(W)
        g["d"] = "c"
        g += Script((("lift", "a"),))
        self.assertEqual([g.wood, g["d"], g.version, g.names(), g.undo(), g.has("a"), str(g)],
                         [(("b", ()), ("c", (("d", ()),))), "c", 2, ("b", "c", "d"), 1, True, "4 nodes, 1 edits"])


class Asked(Kinds):

    def test_parents(self):
        for garden in self.each(BUSY):
            found = {name: garden[name] for name in garden.names()}
            self.assertEqual(found, {"m": None, "k": None, "b": "k", "z": "b", "a": "b", "q": "a", "y": "k", "c": "k",
                                     "x": "c", "abcdefgh": None, "e": "abcdefgh", "d": None})

    def test_names_that_are_not_there(self):
        for garden in self.each():
            for value in ODD + (nested_list(100), "u", "ab", ("a", "b"), Garden(W), Script()):
                self.assertIs(self.same(garden, NoName, take, garden, value).name, value)
                self.assertIs(garden.has(value), False)

    def test_has(self):
        for garden in self.each():
            for name in "abcd":
                self.assertIs(garden.has(name), True)
            garden.run((("turn", "a", "d"), ("put", "n", "a")))
            self.assertIs(garden.has("n"), True)
            garden.undo()
            self.assertIs(garden.has("n"), False)

    def test_len_names_and_str_follow_the_wood(self):
        for garden in self.each():
            garden.do(("put", "n", "b"))
            garden["d"] = "n"
            self.assertEqual((len(garden), garden.names()), (5, ("a", "b", "n", "d", "c")))
            self.assertEqual(str(garden), "5 nodes, 2 edits")
            garden.undo()
            garden.undo()
            self.assertEqual((len(garden), garden.names(), str(garden)), (4, ("a", "b", "c", "d"), "4 nodes, 0 edits"))
            self.assertEqual(str(type(garden)((("a", ()),))), "1 nodes, 0 edits")


class Edits(Kinds):

    def test_deeds_and_scripts(self):
        for garden in self.each():
            self.assertEqual(garden.do(FRONT), 1)
            self.assertEqual(garden.run((BACK, TURN)), 2)
            self.assertEqual(garden.run(Script((TURN,))), 3)
            self.assertEqual(garden.run(()), 4)
            self.assertEqual(garden.run(Script()), 5)
            self.assertIs(add(garden, (FRONT,)), garden)
            self.assertIs(add(garden, Script((BACK,))), garden)
            garden["c"] = "d"
            garden["c"] = None
            edits = ((FRONT,), (BACK, TURN), (TURN,), (), (), (FRONT,), (BACK,))
            edits += ((("last", "c", "d"),), (("back", "c"),))
            self.assertEqual((garden.version, garden.edits()), (9, edits))
            wood = W
            for version, script in enumerate(edits):
                self.assertEqual(garden.wood_before(version), wood)
                wood = plain_script(wood, script)
            self.assertEqual((garden.wood, garden.wood_before(9)), (wood, wood))

    def test_what_is_no_deed(self):
        for garden in self.each():
            for value, error in ((None, "deed"), ((), "deed"), (("front",), "deed"), (("front", "A"), "name"),
                                 (list(FRONT), "deed"), ((FRONT,), "deed"), (("last", "a"), "deed"), ("front", "deed"),
                                 (("last", "a", None), "name"), (Script((FRONT,)), "deed"), (("front", True), "name"),
                                 (nested_list(100), "deed")):
                self.assertEqual(self.same(garden, BadDeed, garden.do, value).error, error)
            for value in ODD:
                self.same(garden, BadDeed, garden.do, value)

    def test_what_is_no_script(self):
        for garden in self.each():
            for value, error in ((None, (None, "script")), ([], (None, "script")), ([FRONT], (None, "script")),
                                 (FRONT, (0, "deed")), ((FRONT, ("front", "A")), (1, "name")),
                                 ("front d", (None, "script")), ((FRONT,) * 13, (None, "script")),
                                 (tuple(("cut", name) for name in "abcde"), (None, "old")),
                                 (tuple(("put", name, "a") for name in "wxyz"), (None, "new")),
                                 (Garden(W), (None, "script"))):
                self.assertEqual(self.same(garden, BadScript, garden.run, value).error, error)
                self.assertEqual(self.same(garden, BadScript, add, garden, value).error, error)
            for value in ODD:
                if value != ():
                    self.same(garden, BadScript, garden.run, value)
                    self.same(garden, BadScript, add, garden, (FRONT, value))

    def test_setting_odd_items(self):
        for garden in self.each():
            for value in ODD + (nested_list(100), Garden(W)):
                self.assertEqual(self.same(garden, BadDeed, put, garden, value, "a").error, "name")
                self.assertEqual(self.same(garden, BadDeed, put, garden, value, None).error, "name")
                if value is not None:
                    self.assertEqual(self.same(garden, BadDeed, put, garden, "a", value).error, "name")

    def test_edits_that_stop(self):
        for garden in self.each():
            garden.do(FRONT)
            for script, index, word in (((STOP,), 0, "inside"), ((FRONT, STOP), 1, "inside"),
                                        ((FRONT, ("cut", "u")), 1, "gone"), ((("put", "a", "b"),), 0, "taken"),
                                        ((FRONT, BACK, ("swap", "a", "a")), 2, "inside")):
                for call in (garden.run, lambda told: add(garden, told), lambda told: add(garden, Script(told))):
                    error = self.same(garden, Stopped, call, script)
                    self.assertEqual((error.index, error.word), (index, word))
            for name, parent, word in (("a", "a", "inside"), ("a", "c", "inside"), ("u", "a", "gone"),
                                       ("a", "u", "gone"), ("u", None, "gone")):
                error = self.same(garden, Stopped, put, garden, name, parent)
                self.assertEqual((error.index, error.word), (0, word))
            error = self.same(garden, Stopped, garden.do, ("wrap", "a", "b"))
            self.assertEqual((error.index, error.word), (0, "taken"))

    def test_sixty_edits(self):
        for garden in self.each():
            for version in range(1, MAX_EDITS + 1):
                self.assertEqual(garden.run((TURN,) if version % 2 else Script((TURN,))), version)
            self.assertEqual((garden.version, garden.wood, len(garden.edits())), (60, W, 60))
            for call, value in ((garden.do, TURN), (garden.run, (TURN,)), (garden.run, ()), (garden.run, Script()),
                                (lambda told: add(garden, told), (TURN,)), (garden.do, STOP)):
                self.same(garden, TooManyEdits, call, value)
            self.same(garden, TooManyEdits, put, garden, "b", "a")
            self.assertEqual(garden.undo(), 59)
            self.assertEqual(garden.do(TURN), 60)
            self.same(garden, TooManyEdits, garden.do, TURN)
            garden.undo()
            garden.undo()
            garden["b"] = "a"
            garden += (TURN,)
            self.assertEqual(garden.version, 60)
            self.same(garden, TooManyEdits, put, garden, "b", "a")
            for version in range(59, -1, -1):
                self.assertEqual(garden.undo(), version)
            self.assertEqual(garden.wood, W)

    def test_errors_in_their_order(self):
        for garden in self.each():
            garden.want(WISH)
            self.assertEqual(self.same(garden, BadDeed, garden.do, ("last", "A", "b")).error, "name")
            self.assertEqual(self.same(garden, BadScript, garden.run, (STOP, BREAK, None)).error, (2, "deed"))
            self.assertEqual(self.same(garden, Stopped, garden.run, (BREAK, STOP, ("cut", "b"), ("cut", "b"))).index, 3)
            self.assertEqual(self.same(garden, Stopped, garden.do, STOP).index, 0)
            self.same(garden, Broken, garden.do, BREAK)
            self.same(garden, Broken, garden.run, (BREAK,))
            self.same(garden, Broken, add, garden, Script((BREAK,)))
            self.same(garden, Broken, put, garden, "b", "d")
            self.same(garden, Broken, put, garden, "b", None)
            for _ in range(60):
                garden.run((BREAK, ("first", "b", "a")))
            for value in (None, ("front", "A"), STOP, BREAK, FRONT):
                self.same(garden, TooManyEdits, garden.do, value)
                self.same(garden, TooManyEdits, garden.run, value)
                self.same(garden, TooManyEdits, garden.run, (value,))
                self.same(garden, TooManyEdits, add, garden, value)
                self.same(garden, TooManyEdits, put, garden, value, value)


class Undone(Kinds):

    def test_back_to_the_first_wood(self):
        for garden in self.each():
            woods = [W]
            for script in ((FRONT,), (TURN, BACK), (), (("put", "n", "d"),), (("wrap", "a", "m"), ("last", "m", "n"))):
                garden.run(script)
                woods.append(garden.wood)
            for version in range(4, -1, -1):
                self.assertEqual(garden.undo(), version)
                self.assertEqual((garden.version, garden.wood, len(garden.edits())), (version, woods[version], version))
            self.same(garden, NothingToUndo, garden.undo)
            self.assertEqual(garden.do(FRONT), 1)

    def test_nothing_to_undo(self):
        for garden in self.each():
            self.same(garden, NothingToUndo, garden.undo)
            garden.want(WISH)
            self.same(garden, NothingToUndo, garden.undo)

    def test_a_wish_that_was_not_so(self):
        for garden in self.each():
            garden.do(("last", "d", "a"))
            garden.want(("in", "d", "a"))
            self.same(garden, Broken, garden.undo)
            garden.do(("last", "d", "b"))
            self.assertEqual(garden.undo(), 1)
            self.same(garden, Broken, garden.undo)
            garden.want(None)
            self.assertEqual((garden.undo(), garden.wood), (0, W))
            self.same(garden, Broken, garden.want, ("in", "d", "a"))


class Wishes(Kinds):

    def test_a_wish_is_set_and_taken_back(self):
        for garden in self.each():
            self.assertIs(garden.want(WISH), None)
            self.assertEqual((garden.wish, garden.version), (WISH, 0))
            garden.do(FRONT)
            self.same(garden, Broken, garden.do, BREAK)
            self.assertIs(garden.want(("not", ("here", "u"))), None)
            garden.do(BREAK)
            self.same(garden, Broken, garden.want, WISH)
            self.assertEqual(garden.wish, ("not", ("here", "u")))
            self.assertIs(garden.want(None), None)
            self.assertIs(garden.wish, None)
            garden.do(("put", "u", "a"))
            self.assertEqual(garden.version, 3)

    def test_what_is_no_wish(self):
        for garden in self.each():
            for value, error in ((True, ((), "wish")), ([], ((), "wish")), (("here", "A"), ((), "name")),
                                 ("-", ((), "wish")), (("not", ("in", "a")), ((0,), "wish")),
                                 (list(WISH), ((), "wish")), (0, ((), "wish")), (("not",) * 2, ((0,), "wish")),
                                 (Script(), ((), "wish"))):
                self.assertEqual(self.same(garden, BadWish, garden.want, value).error, error)
            for value in ODD[1:] + (nested_list(100),):
                self.same(garden, BadWish, garden.want, value)
            deepest = ("here", "u")
            for _ in range(5):
                deepest = ("not", deepest)
            self.assertEqual(self.same(garden, BadWish, garden.want, deepest).error, ((), "deep"))

    def test_a_wish_that_is_not_so(self):
        for garden in self.each():
            for wish in (("in", "a", "b"), ("not", WISH), ("here", "u"), ("ahead", "a", "a")):
                self.same(garden, Broken, garden.want, wish)
            garden.want(WISH)
            self.same(garden, Broken, garden.want, ("not", WISH))
            self.assertEqual(garden.wish, WISH)

    def test_a_script_is_looked_at_as_a_whole(self):
        for garden in self.each():
            garden.want(WISH)
            self.assertEqual(garden.run((BREAK, FRONT, ("last", "b", "a"))), 1)
            self.same(garden, Broken, garden.run, (FRONT, BREAK))


class Versions(Kinds):

    def test_wood_before(self):
        for garden in self.each():
            garden.run((FRONT, BACK))
            garden.do(TURN)
            self.assertEqual([garden.wood_before(0), garden.wood_before(2)], [W, garden.wood])
            self.assertEqual(garden.wood_before(1), do_script(W, (FRONT, BACK)))

    def test_what_is_no_version(self):
        for garden in self.each():
            garden.do(FRONT)
            for value in ODD + (2, 3, 60, -2, nested_list(100), W, Script()):
                if value is True or value is False or value not in (0, 1):
                    self.assertIs(self.same(garden, NoVersion, garden.wood_before, value).value, value)
            garden.undo()
            self.assertEqual(self.same(garden, NoVersion, garden.wood_before, 1).value, 1)
            self.assertEqual(garden.wood_before(0), W)


class Copies(Kinds):

    def test_a_copy_goes_on_by_itself(self):
        for garden in self.each():
            garden.do(FRONT)
            garden += (TURN,)
            garden.want(("in", "a", "b"))
            other = garden.copy()
            self.assertIs(type(other), type(garden))
            self.assertIsNot(other, garden)
            self.assertEqual(state(other), state(garden))
            before = state(garden)
            other.want(None)
            other.undo()
            other.do(("put", "n", "a"))
            self.assertEqual(state(garden), before)
            after = state(other)
            garden.do(FRONT)
            garden.want(None)
            garden.undo()
            garden.undo()
            garden.undo()
            self.assertEqual(state(other), after)
            self.assertEqual((other.edits(), other.wish), (((FRONT,), (("put", "n", "a"),)), None))

    def test_copies_of_copies_and_of_new_gardens(self):
        for garden in self.each(()):
            other = garden.copy().copy()
            self.assertEqual(state(other), state(garden))
            self.refused(NothingToUndo, other.undo)

    def test_a_copy_of_a_garden_beyond_the_limits(self):
        for garden in self.each(wide(120)):
            garden.do(("put", "x", name_at(0)))
            other = garden.copy()
            self.assertEqual(state(other), state(garden))
            self.assertEqual((other.undo(), other.wood, len(garden)), (0, wide(120), 121))


class WhatIsTold(Kinds):

    def test_it_stays_as_it_was_told(self):
        for garden in self.each():
            garden.do(FRONT)
            told = (garden.edits(), garden.wood, garden.names(), getattr(garden, "log", ()))
            kept = tuple(tuple(list(part)) for part in told)
            garden.run((BACK, TURN))
            garden.undo()
            garden.undo()
            garden["b"] = "d"
            self.assertEqual(told, kept)

    def test_woods_beyond_the_limits(self):
        for garden in self.each(wide(119)):
            for number in range(30):
                garden.do(("put", name_at(200 + number), name_at(0)))
            self.assertEqual((len(garden), garden[name_at(229)]), (149, name_at(0)))
            self.assertEqual(wood_error(garden.wood), "many")
        for garden in self.each(deep(40)):
            for number in range(59):
                garden.do(("wrap", name_at(0), name_at(200 + number)))
            self.assertEqual((len(garden), wood_error(garden.wood)), (99, "deep"))
            garden.want(("in", name_at(39), name_at(200)))
            garden[name_at(39)] = name_at(258)
            self.assertEqual(garden[name_at(39)], name_at(258))
            self.same(garden, TooManyEdits, put, garden, name_at(39), None)
            self.assertEqual(garden.copy(), garden)
            garden.want(None)
            while garden.version > 1:
                garden.undo()
            self.assertEqual(len(paths(garden.wood)), 41)

    def test_all_small_woods(self):
        for wood in all_woods(("a", "b", "c")):
            for kind in CLASSES:
                garden = kind(wood)
                for script in ((("front", "b"),), (("turn", "a", "c"), ("back", "c"))):
                    garden.run(script)
                self.assertEqual(garden.wood, plain_script(wood, (("front", "b"), ("turn", "a", "c"), ("back", "c"))))
                self.assertEqual([garden.wood_before(0), garden.undo(), garden.undo(), garden.wood], [wood, 1, 0, wood])

    def test_scripts_that_are_passed_stay_as_they_are(self):
        script = Script((FRONT,))
        for garden in self.each():
            garden += script
            garden += script
            garden.undo()
        self.assertEqual((script, len(script)), (Script((FRONT,)), 1))
        self.assertEqual(V, (("d", (("c", ()),)), ("a", (("b", ()),))))
