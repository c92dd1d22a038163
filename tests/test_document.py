"""The examples of the document, section by section."""

from tests.other_ways import plain_alike
from tests.samples import V, W, Case
from twigscripts.console import Console
from twigscripts.deeds import do_deed, do_script, old_names
from twigscripts.errors import BadRow, Stopped
from twigscripts.gardens import Garden
from twigscripts.moves import least_moves, lets_fewest, lets_labels
from twigscripts.pairs import alike, fate, loses, stops_on, within
from twigscripts.sayings import told
from twigscripts.scripts import Script
from twigscripts.short import lean, plan, shortest
from twigscripts.tables import by_table, effect
from twigscripts.texts import read_script, read_wish, read_wood, script_text, wish_text, wood_text
from twigscripts.wishes import is_so, sure, where
from twigscripts.woods import gaps_of, is_ahead, parent_of, row_of, skeleton_of, wood_of

LAST = ("last", "a", "b")


class Document(Case):

    def test_section_1(self):
        self.assertEqual(W, (("a", (("b", ()), ("c", ()))), ("d", ())))
        self.assertEqual(row_of(W), ("+a", "+b", "-b", "+c", "-c", "-a", "+d", "-d"))
        self.assertEqual([skeleton_of(W, ("d", "c")), gaps_of(W, ("d", "c")), parent_of(W, "c"), is_ahead(W, "b", "d")],
                         [(("c", ()), ("d", ())), (("+a", "+b", "-b"), (), ("-a",), (), ()), "a", True])
        self.assertEqual(self.refused(BadRow, wood_of, ("+a", "+b", "-a")).place, 2)

    def test_section_2(self):
        self.assertEqual(
            [do_deed(W, ("ahead", "d", "c")), do_script(W, (("lift", "a"), ("swap", "b", "d"))),
             old_names((("put", "x", "a"), ("last", "x", "b")))],
            [(("a", (("b", ()), ("d", ()), ("c", ()))),), (("d", ()), ("c", ()), ("b", ())), ("a", "b")])
        error = self.refused(Stopped, do_script, W, (("back", "a"), LAST))
        self.assertEqual((error.index, error.word), (1, "inside"))

    def test_section_3(self):
        self.assertEqual(
            [effect((("front", "a"),)), len(effect((LAST,), names=("c",))), effect((("cut", "b"), ("lift", "b")))],
            [((("+a", "-a"), ("does", ("+a", 1, "-a", 0, 2))),), 30, ((("+b", "-b"), ("stops", 1, "gone")),)])
        self.assertEqual(by_table(effect((("swap", "b", "d"),)), W), (("a", (("d", ()), ("c", ()))), ("b", ())))

    def test_section_4(self):
        front, swap, turn = ("front", "a"), ("swap", "a", "b"), ("turn", "a", "b")
        self.assertEqual([alike((front,), (front, front)), alike((swap,), (("swap", "b", "a"),)), fate((LAST,))],
                         [None, None, "open"])
        self.assertEqual([loses((turn,)), stops_on((LAST,)), within((LAST,), (swap,)) is None],
                         [None, ((("+a", "+b", "-b", "-a"), 0, "inside"),), False])

    def test_section_5(self):
        self.assertEqual(
            [sure(("here", "a"), (LAST,), ("in", "a", "b")), where((("swap", "a", "b"),), ("ahead", "a", "b")),
             is_so(("not", ("in", "b", "d")), W)], [None, (("+b", "-b", "+a", "-a"),), True])
        self.assertEqual(
            [told((LAST,), ("child", "a", "b")), told((LAST,), ("last", "a")), told((LAST,), ("bare", "b")),
             told((LAST,), ("first", "a"))[0]], [("sure",), ("sure",), ("never",), "open"])

    def test_section_6(self):
        self.assertEqual(lean((("front", "a"), ("front", "b"), ("front", "a"))), (("front", "b"), ("front", "a")))
        self.assertEqual(shortest((("behind", "a", "b"), ("ahead", "b", "a"))), (("behind", "a", "b"),))
        self.assertEqual(len(plan(("in", "a", "b"), ("in", "b", "a"))), 1)

    def test_section_7(self):
        moves, value = (("front", "d"), ("first", "c", "d")), (("a", 0), ("b", 0), ("d", 0))
        self.assertEqual([least_moves(W, V), lets_fewest(W, V, moves, value)], [2, True])
        self.assertIs(lets_labels(W, V, (("a", 0), ("b", 0), ("d", 1))), True)

    def test_section_8(self):
        s = Script((("front", "a"),))
        self.assertEqual(
            [len((("cut", "b"),) + s * 2), s.parts(Script()) is None, "a" in s, s.is_within(s + s), str(s + s)],
            [3, False, True, True, "front a; front a"])

    def test_section_9(self):
        g = Garden(W)
        g["d"] = "c"
        g += Script((("lift", "a"),))
        self.assertEqual([g.wood, g["d"], g.version, g.names(), g.undo(), g.has("a"), str(g)],
                         [(("b", ()), ("c", (("d", ()),))), "c", 2, ("b", "c", "d"), 1, True, "4 nodes, 1 edits"])

    def test_section_10(self):
        wood = (("a", (("b", ()), ("c", (("d", ()),)))), ("e", ()))
        script = (LAST, ("cut", "c"))
        wish = ("and", ("in", "a", "b"), ("not", ("here", "c")))
        self.assertEqual([wood_text(wood), script_text(script), wish_text(wish)],
                         ["a(b c(d)) e", "last a b; cut c", "and(in(a b) not(here(c)))"])
        self.assertEqual([read_wood("a(b c(d)) e"), read_script("last a b; cut c"),
                          read_wish("and(in(a b) not(here(c)))")], [wood, script, wish])
        c = Console(Garden(W))
        found = [c.say("do last d c; lift a"), c.say("wood"), c.say("parts front a / back a"), c.say("do cut x"),
                 c.say("fate  cut a")]
        self.assertEqual(found[:2] + found[3:], ["ok 1", "b c(d)", "error Stopped", "unknown command"])
        self.assertFalse(plain_alike((("front", "a"),), (("back", "a"),), [read_wood(found[2])]))
        self.assertEqual(found[2].count(" "), 1)
