"""[20]: the console, with gardens of all four classes."""

from tests.other_ways import plain_alike, full_woods, plain_script
from tests.samples import BUSY, ODD, V, W, Case, deep, name_at, nested_list, wide
from tests.test_gardens import CLASSES, FRONT, TURN, WISH, state
from tests.text_ways import changed_texts, plain_position
from twigscripts.console import Console
from twigscripts.deeds import do_script
from twigscripts.errors import Busy
from twigscripts.gardens import CarefulGarden, CarefulLoggedGarden, Garden, LoggedGarden
from twigscripts.moves import least_moves
from twigscripts.pairs import alike, loses
from twigscripts.short import lean
from twigscripts.texts import read_script, read_wood, script_text, wish_text, wood_text

UNKNOWN = "unknown command"
# Texts of no script, no wood and no wish.
NO_SCRIPTS = ("; ".join(["cut d"] * 13), "cut a; cut b; cut c; cut d; cut e", "put w a; put x a; put y a; put z a")
NO_WOODS = ("a a", "a(a)", "a(b) b", wood_text(wide(121)), wood_text(deep(41)))
DEEP_WISH = "not(not(not(not(not(here(a))))))"
MANY = "and(or(here(a) here(a)) or(here(a) here(a)))"
THIRTEEN = "and(" + MANY + " or(here(a) or(here(a) here(a))))"
NO_WISHES = (DEEP_WISH, THIRTEEN, "or(" + MANY + " " + MANY + ")")
WORDS = ("do", "put", "root", "undo", "wish", "wood", "names", "parent", "so", "fate", "parts", "loses", "lean",
         "moves")


def consoles(wood=W):
    """A garden of each class with its console."""
    gardens = [kind(wood) for kind in CLASSES]
    return [(garden, Console(garden)) for garden in gardens]


class Said(Case):

    def answers(self, console, *rows):
        for line, answer in rows:
            self.assertEqual(console.say(line), answer, line)

    def unchanged(self, garden, console, line, answer):
        before = state(garden)
        self.assertEqual(console.say(line), answer, line)
        self.assertEqual(state(garden), before)


class Changes(Said):

    def test_the_document(self):
        c = Console(Garden(W))
        self.answers(c, ("do last d c; lift a", "ok 1"), ("wood", "b c(d)"))
        found = read_wood(c.say("parts front a / back a"))
        self.assertEqual(len(found), 2)
        self.assertIn("a", [name for name, _ in found])
        self.answers(c, ("do cut x", "error Stopped"), ("fate  cut a", UNKNOWN))

    def test_do(self):
        for garden, console in consoles():
            self.answers(console, ("do front d", "ok 1"), ("do back a; turn a b", "ok 2"), ("do -", "ok 3"))
            self.assertEqual(garden.edits(), ((FRONT,), (("back", "a"), TURN), ()))
            self.assertEqual(garden.wood, do_script(W, (FRONT, ("back", "a"), TURN)))
            if hasattr(garden, "log"):
                self.assertEqual(garden.log, (("run", 1), ("run", 2), ("run", 3)))

    def test_put_and_root(self):
        for garden, console in consoles():
            self.answers(console, ("put d c", "ok 1"), ("root b", "ok 2"), ("parent d", "c"), ("parent b", "-"))
            self.assertEqual(garden.edits(), ((("last", "d", "c"),), (("back", "b"),)))
            if hasattr(garden, "log"):
                self.assertEqual(garden.log, (("set", 1), ("set", 2)))

    def test_undo(self):
        for garden, console in consoles():
            self.answers(console, ("do front d", "ok 1"), ("put b d", "ok 2"), ("undo", "ok 1"), ("undo", "ok 0"),
                         ("undo", "error NothingToUndo"), ("wood", "a(b c) d"), ("root d", "ok 1"))

    def test_wish(self):
        for garden, console in consoles():
            self.answers(console, ("wish in(b a)", "ok"), ("do front b", "error Broken"), ("root b", "error Broken"),
                         ("put b d", "error Broken"), ("do turn a b", "error Broken"), ("wish in(a b)", "error Broken"))
            self.assertEqual((garden.wish, garden.version), (WISH, 0))
            self.answers(console, ("wish -", "ok"), ("put b d", "ok 1"), ("wish in(b d)", "ok"),
                         ("undo", "error Broken"), ("wish -", "ok"), ("undo", "ok 0"))
            self.assertIs(garden.wish, None)

    def test_it_works_on_this_very_garden(self):
        for garden, console in consoles():
            other = Console(garden)
            self.answers(console, ("do front d", "ok 1"))
            self.answers(other, ("wood", "d a(b c)"), ("undo", "ok 0"))
            garden.do(TURN)
            self.answers(console, ("wood", "b(a c) d"), ("put a d", "ok 2"))
            garden["c"] = "d"
            self.answers(other, ("wood", "b d(a c)"), ("undo", "ok 2"), ("names", "b c d a"))
            self.assertEqual((len(console.history), len(other.history), garden.version), (3, 5, 2))


class Asks(Said):

    def test_wood_and_names(self):
        for garden, console in consoles():
            self.answers(console, ("wood", "a(b c) d"), ("names", "a b c d"))
            self.unchanged(garden, console, "wood", "a(b c) d")
        for _, console in consoles(()):
            self.answers(console, ("wood", "-"), ("names", "-"))
        for _, console in consoles(BUSY):
            self.answers(console, ("wood", wood_text(BUSY)), ("names", "m k b z a q y c x abcdefgh e d"))

    def test_parent(self):
        for garden, console in consoles():
            for line, answer in (("parent b", "a"), ("parent a", "-"), ("parent d", "-"), ("parent c", "a"),
                                 ("parent u", "error NoName"), ("parent abcdefgh", "error NoName")):
                self.unchanged(garden, console, line, answer)

    def test_so(self):
        for garden, console in consoles():
            for text, answer in (("in(b a)", "yes"), ("in(a b)", "no"), ("not(here(u))", "yes"), ("ahead(b d)", "yes"),
                                 ("and(here(a) or(here(u) in(c a)))", "yes"), ("ahead(a a)", "no")):
                self.unchanged(garden, console, "so " + text, answer)

    def test_fate(self):
        for garden, console in consoles():
            for text, answer in (("front a", "does"), ("-", "does"), ("last a b", "open"), ("cut a; cut a", "stops")):
                self.unchanged(garden, console, "fate " + text, answer)

    def test_parts(self):
        for garden, console in consoles():
            for one, other in (("front a", "back a"), ("front a", "front a; front a"), ("-", "-"), ("-", "cut x"),
                               ("swap a b", "swap b a"), ("put n a", "wrap a n"), ("lift a", "cut a")):
                answer = console.say("parts " + one + " / " + other)
                found = alike(read_script(one), read_script(other))
                self.assertEqual(answer, "alike" if found is None else wood_text(found))
                if found is not None:
                    self.assertFalse(plain_alike(read_script(one), read_script(other), [read_wood(answer)]))
            self.unchanged(garden, console, "parts put n a / cut n", "error Clash")
            self.unchanged(garden, console, "parts last a b; last c d / cut e", "error TooMany")

    def test_loses(self):
        for garden, console in consoles():
            for text in ("turn a b", "-", "wrap a n; lift n", "swap a b", "cut a; cut a"):
                self.unchanged(garden, console, "loses " + text, "nothing")
            for text in ("cut a", "front a", "lift b", "pour a b", "front a; front b"):
                answer = console.say("loses " + text)
                one, other = [read_wood(part) for part in answer.split(" / ")]
                self.assertEqual((one, other), loses(read_script(text)))
                self.assertEqual(plain_script(one, read_script(text)), plain_script(other, read_script(text)))

    def test_lean(self):
        for garden, console in consoles():
            for text, answer in (("front a; front b; front a", "front b; front a"), ("-", "-"), ("turn a a", "-"),
                                 ("cut a; cut a", "cut a; cut a")):
                self.unchanged(garden, console, "lean " + text, answer)
            script = read_script("last a b; first a b; wrap a n; front a")
            found = read_script(console.say("lean " + script_text(script)))
            self.assertEqual(found, lean(script))
            self.assertTrue(plain_alike(found, script, full_woods(script)))

    def test_moves(self):
        for garden, console in consoles():
            for wood in (V, W, W[::-1], (("d", (("c", (("b", (("a", ()),)),)),)),)):
                answer = console.say("moves " + wood_text(wood))
                self.assertEqual(do_script(W, read_script(answer)), wood)
                self.assertEqual(len(read_script(answer)), least_moves(W, wood))
            self.unchanged(garden, console, "moves a(b c) d", "-")
            for text in ("-", "a", "a b c u", "a b c d e"):
                self.unchanged(garden, console, "moves " + text, "error Unlike")
        for garden, console in consoles(wide(120)):
            answer = console.say("moves " + wood_text(wide(120)[::-1]))
            self.assertEqual(do_script(wide(120), read_script(answer)), wide(120)[::-1])
            self.assertEqual(answer.count(";"), 118)


class Errors(Said):

    def test_texts_of_no_script(self):
        for garden, console in consoles():
            for text in NO_SCRIPTS:
                for line in ("do " + text, "fate " + text, "loses " + text, "lean " + text, "parts " + text + " / -",
                             "parts - / " + text, "parts " + text + " / " + text):
                    self.unchanged(garden, console, line, "error BadScript")

    def test_texts_of_no_wood(self):
        for garden, console in consoles():
            for text in NO_WOODS:
                self.unchanged(garden, console, "moves " + text, "error BadWood")

    def test_texts_of_no_wish(self):
        for garden, console in consoles():
            for text in NO_WISHES:
                for line in ("wish " + text, "so " + text):
                    self.unchanged(garden, console, line, "error BadWish")

    def test_texts_are_read_ahead_of_a_look_at_them(self):
        for garden, console in consoles():
            for text in NO_SCRIPTS:
                for line in ("parts " + text + " / front", "parts front / " + text, "parts " + text + " /",
                             "do " + text + " ", "parts " + text, "parts " + text + " / - / -",
                             "parts " + text + "/ -"):
                    self.unchanged(garden, console, line, UNKNOWN)

    def test_they_are_looked_at_ahead_of_all_else(self):
        for garden, console in consoles():
            for _ in range(60):
                garden.run(())
            self.answers(console, ("do " + NO_SCRIPTS[0], "error BadScript"), ("do cut u", "error TooManyEdits"),
                         ("put a u", "error TooManyEdits"), ("root u", "error TooManyEdits"),
                         ("do -", "error TooManyEdits"), ("do cut", UNKNOWN), ("put a", UNKNOWN), ("root", UNKNOWN))
            garden.together(lambda told: self.answers(
                console, ("wish " + DEEP_WISH, "error BadWish"), ("wish here(u)", "error Busy"),
                ("wish -", "error Busy"), ("wish here(A)", UNKNOWN)))
            self.answers(console, ("parts " + NO_SCRIPTS[1] + " / put a b", "error BadScript"),
                         ("moves a(a)", "error BadWood"))

    def test_errors_of_edits(self):
        for garden, console in consoles():
            for line in ("do cut u", "do last a b", "put u a", "put a u", "put a b", "root u", "put a a"):
                self.unchanged(garden, console, line, "error Stopped")
            careful = isinstance(garden, CarefulGarden)
            self.unchanged(garden, console, "do cut d; cut d", "error Stopped")
            self.answers(console, ("do cut d", "error Lost" if careful else "ok 1"))

    def test_within_together(self):
        for garden, console in consoles():
            garden.do(TURN)
            garden.together(lambda told: self.answers(
                console, ("undo", "error NothingToUndo"), ("do front d", "ok 2"), ("put d c", "ok 3"), ("undo", "ok 2"),
                ("wood", "d b(a c)"), ("so here(a)", "yes"), ("wish here(a)", "error Busy"), ("wish -", "error Busy"),
                ("do -", "ok 3"), ("do cut u", "error Stopped"), ("parent c", "b")))
            self.assertEqual(garden.edits(), ((TURN,), (FRONT,)))
            self.answers(console, ("wish here(a)", "ok"), ("undo", "ok 1"))
            self.assertEqual(len(console.history), 13)

    def test_the_console_keeps_what_was_said_though_together_takes_back(self):
        for garden, console in consoles():
            with self.assertRaises(Busy):
                garden.together(lambda told: (console.say("do front d"), told.copy()))
            self.assertEqual((console.history, garden.version), ((("do front d", "ok 1"),), 0))


class Unknown(Said):

    def test_what_is_no_string(self):
        for garden, console in consoles():
            values = [value for value in ODD if not isinstance(value, str)]
            for value in values + [nested_list(100), W, ("wood",), ["wood"]]:
                self.unchanged(garden, console, value, UNKNOWN)
                self.assertEqual(console.history[-1], (None, UNKNOWN))

    def test_what_is_no_command(self):
        for garden, console in consoles():
            for line in ("", " ", "-", "w", "woods", "Wood", "WOOD", "help", "a(b c) d", "front a", "here(a)", "redo",
                         "undo undo", "wood wood", "names a", "undo 1", "want here(a)", "run cut a", "plan", "sure",
                         "wish", "so", "so -", "so", "fate", "parts", "loses", "lean", "moves", "parent", "root",
                         "put", "do", "do;", "error", "ok"):
                self.unchanged(garden, console, line, UNKNOWN)
            for line in [value for value in ODD if isinstance(value, str)]:
                self.unchanged(garden, console, line, UNKNOWN)

    def test_blanks(self):
        lines = ("do front d", "put d c", "root b", "undo", "wish here(a)", "wish -", "wood", "names", "parent a",
                 "so here(a)", "fate cut a", "parts cut a / lift a", "loses cut a", "lean cut a",
                 "moves a(b c) d", "do -", "moves -")
        for garden, console in consoles():
            for line in lines:
                for other in (" " + line, line + " ", line.replace(" ", "  "), line.upper(), line + "\n", "\n" + line):
                    if other != line:
                        self.unchanged(garden, console, other, UNKNOWN)
                for place in [place for place, char in enumerate(line) if char == " "]:
                    self.unchanged(garden, console, line[:place] + " " + line[place:], UNKNOWN)
                    self.unchanged(garden, console, line[:place + 1], UNKNOWN)

    def test_names_that_are_none(self):
        for garden, console in consoles():
            for text in ("A", "a1", "abcdefghi", "a,b", "-", "a-b", "a(b)", "_", "a b c", "", " a", "a ", "a  b",
                         "none", "None"):
                expected = "error Stopped" if text == "none" else UNKNOWN
                self.unchanged(garden, console, "root " + text, expected)
                self.unchanged(garden, console, "parent " + text, "error NoName" if text == "none" else UNKNOWN)
                self.unchanged(garden, console, "put a " + text, expected)
                self.unchanged(garden, console, "put " + text + " a", expected)
            for text in ("a", "a b c", "a/b", "a / b", "a,b"):
                self.unchanged(garden, console, "put " + text, UNKNOWN)

    def test_texts_that_are_wrong_at_each_place(self):
        kinds = {"do ": ("script", "last d c; cut u"), "fate ": ("script", "wrap a n; lift n"),
                 "loses ": ("script", "front a"), "lean ": ("script", "cut a; put a b"),
                 "wish ": ("wish", "and(in(b a) not(here(u)))"), "so ": ("wish", "or(ahead(a b) here(c))"),
                 "moves ": ("wood", "d a(c b)")}
        answers = set()
        for ahead, (kind, text) in kinds.items():
            for other in changed_texts(text):
                answer = Console(Garden(W)).say(ahead + other)
                if (ahead, other) != ("wish ", "-"):
                    self.assertIs(answer == UNKNOWN, plain_position(kind, other) is not None, ahead + other)
                answers.add((ahead, answer == UNKNOWN))
        self.assertEqual(len(answers), 14)

    def test_parts_that_are_wrong_at_each_place(self):
        text = "front a / back a; cut b"
        answers = set()
        for other in changed_texts(text):
            parts = other.split(" / ")
            right = len(parts) == 2 and [plain_position("script", part) for part in parts] == [None, None]
            self.assertIs(Console(Garden(W)).say("parts " + other) == UNKNOWN, not right, other)
            answers.add(right)
        self.assertEqual(answers, {True, False})

    def test_words_that_are_wrong_at_each_place(self):
        lines = ("do cut d", "put d c", "root b", "undo", "wish here(a)", "wood", "names", "parent a", "so here(a)",
                 "fate -", "parts - / -", "loses -", "lean -", "moves -")
        for line in lines:
            word = line.split(" ")[0]
            for other in changed_texts(word):
                if other != word and other not in WORDS:
                    self.assertEqual(Console(Garden(W)).say(other + line[len(word):]), UNKNOWN, other)


class History(Said):

    def test_the_last_twenty_pairs(self):
        for _, console in consoles():
            self.assertEqual(console.history, ())
            rows = ()
            for number in range(50):
                line = ("put d c", "root d", "wood", "what", None, "undo")[number % 6]
                answer = console.say(line)
                rows += ((line, answer),)
                self.assertEqual(console.history, rows[-20:])
                self.assertIsInstance(console.history, tuple)
            self.assertEqual(len(console.history), 20)
            self.assertIn((None, UNKNOWN), console.history)

    def test_what_was_told_stays(self):
        for _, console in consoles():
            console.say("wood")
            told = console.history
            for _ in range(30):
                console.say("names")
            self.assertEqual(told, (("wood", "a(b c) d"),))
            with self.assertRaises(AttributeError):
                console.history = ()

    def test_consoles_of_one_garden_have_each_their_own(self):
        garden = LoggedGarden(W)
        one, other = Console(garden), Console(garden)
        one.say("do front d")
        other.say("undo")
        self.assertEqual((one.history, other.history), ((("do front d", "ok 1"),), (("undo", "ok 0"),)))
        self.assertEqual(garden.log, (("run", 1), ("undo", 0)))

    def test_lists_that_were_passed_stay(self):
        value = ["wood", ["x"]]
        console = Console(Garden(W))
        self.assertEqual(console.say(value), UNKNOWN)
        self.assertEqual((value, console.history), (["wood", ["x"]], ((None, UNKNOWN),)))


class Great(Said):

    def test_woods_beyond_the_limits(self):
        for garden, console in consoles(wide(120)):
            self.assertEqual(console.say(f"do put x {name_at(0)}; put y x"), "ok 1")
            self.assertEqual(read_wood(console.say("wood")), garden.wood)
            self.assertEqual(console.say("names").count(" "), 121)
            self.answers(console, ("parent y", "x"), (f"put {name_at(9)} y", "ok 2"), ("so in(y x)", "yes"))
            self.assertEqual(console.say("moves " + wood_text(wide(120))), "error Unlike")
        for garden, console in consoles(deep(40)):
            self.assertEqual(console.say(f"do wrap {name_at(0)} x; wrap x y; wrap y z"), "ok 1")
            self.assertEqual(console.say("wood"), wood_text(garden.wood))
            self.assertEqual(console.say("moves " + console.say("wood")), UNKNOWN)

    def test_long_lines(self):
        console = Console(CarefulLoggedGarden(W))
        self.assertEqual(console.say("do " + "a" * 2000), UNKNOWN)
        self.assertEqual(console.say("wood" * 700), UNKNOWN)
        self.assertEqual(console.say("so " + "not(" * 40 + "here(a)"), UNKNOWN)
        self.assertEqual(console.say("so " + wish_text(("not", WISH))), "no")
