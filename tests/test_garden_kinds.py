"""[18]: equality and str of gardens, careful and logged gardens."""

from itertools import product

from tests.samples import BUSY, ODD, V, W, Case, deep, wide
from tests.test_gardens import BACK, CLASSES, FRONT, STOP, TURN, WISH, add, put, state
from twigscripts.errors import BadDeed, BadScript, Broken, Lost, NothingToUndo, Stopped, TooManyEdits
from twigscripts.gardens import CarefulGarden, CarefulLoggedGarden, Garden, LoggedGarden
from twigscripts.scripts import Script

CAREFUL = (CarefulGarden, CarefulLoggedGarden)
LOGGED = (LoggedGarden, CarefulLoggedGarden)


class Classes(Case):

    def test_which_is_a_subclass_of_which(self):
        self.assertEqual([kind.__bases__ for kind in CLASSES],
                         [(object,), (Garden,), (Garden,), (LoggedGarden, CarefulGarden)])

    def test_only_logged_gardens_have_a_log(self):
        self.assertEqual([hasattr(kind(), "log") for kind in CLASSES], [False, False, True, True])


class Equal(Case):

    def test_gardens_of_different_classes(self):
        for one, other in product(CLASSES, repeat=2):
            self.assertIs(one(W) == other(W), True)
            self.assertIs(one(W) != other(W), False)
            self.assertIs(one(W) == other(V), False)
            self.assertIs(one() == other(()), True)
            self.assertIs(one() == other(W), False)
            self.assertIs(one(deep(40)) == other(deep(40)), True)
            self.assertIs(one(wide(120)) == other(wide(120)[::-1]), False)

    def test_edits_and_logs_play_no_part(self):
        for one, other in product(CLASSES, repeat=2):
            garden, same = one(W), other(W)
            garden.do(TURN)
            self.assertIs(garden == same, False)
            garden += (TURN,)
            self.assertIs(garden == same, True)
            same.run(())
            same.together(lambda told: told.do(TURN))
            self.assertIs(garden == same, False)
            same.undo()
            self.assertIs(garden == same, True)

    def test_wishes_play_a_part(self):
        for one, other in product(CLASSES, repeat=2):
            garden, same = one(W), other(W)
            garden.want(WISH)
            self.assertIs(garden == same, False)
            self.assertIs(same == garden, False)
            same.want(("in", "c", "a"))
            self.assertIs(garden == same, False)
            same.want(("in", "b", "a"))
            self.assertIs(garden == same, True)
            garden.want(None)
            self.assertIs(garden != same, True)
            same.want(None)
            self.assertIs(garden == same, True)

    def test_against_any_value(self):
        for kind in CLASSES:
            for value in ODD + (W, (), Script(), str(kind(W)), [kind(W)], (kind(W),)):
                for garden in (kind(W), kind()):
                    self.assertIs(garden == value, False)
                    self.assertIs(value == garden, False)
                    self.assertIs(garden != value, True)

    def test_str(self):
        for kind in CLASSES:
            garden = kind(W)
            self.assertEqual(str(garden), "4 nodes, 0 edits")
            garden.do(("put", "n", "a"))
            self.assertEqual(str(garden), "5 nodes, 1 edits")
            garden.together(lambda told: self.assertEqual((told.do(TURN), str(told)), (2, "5 nodes, 2 edits")))
            garden.together(lambda told: [told.undo() for _ in range(0)])
            self.assertEqual(str(garden), "5 nodes, 2 edits")
            self.assertEqual(str(kind((("a", ()),))), "1 nodes, 0 edits")
            self.assertEqual(str(kind(wide(120))), "120 nodes, 0 edits")


class Careful(Case):

    def lost(self, garden, name, call, *args):
        before = state(garden)
        self.assertEqual(self.refused(Lost, call, *args).name, name)
        self.assertEqual(state(garden), before)

    def test_nodes_that_are_lost(self):
        for kind in CAREFUL:
            garden = kind(BUSY)
            for script, name in (((("cut", "b"),), "b"), ((("lift", "k"),), "k"), ((("cut", "k"),), "k"),
                                 ((("cut", "d"),), "d"), ((FRONT, ("cut", "x"), ("lift", "m")), "m"),
                                 ((("last", "e", "d"), ("cut", "d")), "e"),
                                 ((("turn", "a", "d"), ("cut", "d")), "q"), ((("cut", "q"), ("cut", "z")), "z")):
                self.lost(garden, name, garden.run, script)
                self.lost(garden, name, add, garden, Script(script))
                if len(script) == 1:
                    self.lost(garden, name, garden.do, script[0])

    def test_nodes_that_are_there_again_are_not_lost(self):
        for kind in CAREFUL:
            garden = kind(W)
            self.assertEqual(garden.run((("cut", "b"), ("put", "b", "d"))), 1)
            self.assertEqual(garden.run((("lift", "a"), ("wrap", "c", "a"))), 2)
            self.assertEqual(garden.run((("put", "n", "a"), ("cut", "n"))), 3)
            self.assertEqual(garden.names(), ("a", "c", "d", "b"))
            self.lost(garden, "b", garden.run, (("cut", "b"), ("put", "x", "d")))
            self.lost(garden, "d", garden.run, (("turn", "a", "d"), ("put", "x", "a"), ("lift", "d")))

    def test_names_that_an_edit_makes_may_go_in_it(self):
        for kind in CAREFUL:
            garden = kind(W)
            garden.run((("wrap", "a", "n"), ("lift", "n")))
            garden.run((("put", "n", "a"),))
            self.lost(garden, "n", garden.do, ("lift", "n"))
            self.assertEqual((garden.undo(), garden.has("n")), (1, False))

    def test_moves_and_the_like_lose_nothing(self):
        for kind in CAREFUL:
            garden = kind(W)
            for deed in (FRONT, BACK, TURN, ("swap", "c", "d"), ("pour", "c", "a"), ("wrap", "b", "x")):
                garden.do(deed)
            garden.do(("put", "y", "x"))
            garden["c"] = "a"
            garden["c"] = None
            self.assertEqual((garden.version, len(garden)), (9, 6))

    def test_lost_comes_behind_stopped_and_ahead_of_broken(self):
        for kind in CAREFUL:
            garden = kind(W)
            garden.want(WISH)
            self.lost(garden, "b", garden.do, ("cut", "b"))
            self.lost(garden, "a", garden.run, (("lift", "a"), ("cut", "b")))
            self.assertEqual(self.refused(Stopped, garden.run, (("cut", "b"), ("cut", "b"))).index, 1)
            self.refused(BadScript, garden.run, (("cut", "b"), None))
            self.refused(BadDeed, garden.do, ("cut", "B"))
            self.refused(Broken, garden.do, ("front", "b"))
            while garden.version < 60:
                garden.run(())
            self.refused(TooManyEdits, garden.do, ("cut", "b"))

    def test_undo_may_take_nodes_away(self):
        for kind in CAREFUL:
            garden = kind()
            self.refused(NothingToUndo, garden.undo)
            garden = kind(W)
            garden.do(("put", "n", "a"))
            garden.do(("wrap", "n", "m"))
            self.assertEqual((garden.undo(), garden.undo(), garden.wood), (1, 0, W))

    def test_gardens_that_are_not_careful(self):
        for kind in (Garden, LoggedGarden):
            garden = kind(W)
            self.assertEqual(garden.do(("cut", "a")), 1)
            self.assertEqual(garden.run((("lift", "d"),)), 2)
            self.assertEqual((garden.wood, garden.names()), ((), ()))


class Logged(Case):

    def test_a_row_for_each_call(self):
        for kind in LOGGED:
            garden = kind(W)
            self.assertEqual(garden.log, ())
            garden.do(FRONT)
            garden.run((BACK, TURN))
            garden.run(Script())
            garden += (TURN,)
            garden += Script((TURN,))
            garden["c"] = "d"
            garden["c"] = None
            garden.undo()
            garden.together(lambda told: told.do(FRONT))
            garden.undo()
            self.assertEqual(garden.log, (
                ("do", 1), ("run", 2), ("run", 3), ("run", 4), ("run", 5), ("set", 6), ("set", 7), ("undo", 6),
                ("do", 7), ("together", 7), ("undo", 6)))
            self.assertIsInstance(garden.log, tuple)

    def test_no_row_for_what_raises_or_changes_nothing(self):
        for kind in LOGGED:
            garden = kind(W)
            self.refused(NothingToUndo, garden.undo)
            garden.want(WISH)
            for call, value in ((garden.do, None), (garden.do, STOP), (garden.do, ("front", "b")), (garden.run, [])):
                with self.assertRaises(ValueError):
                    call(value)
            self.refused(BadDeed, put, garden, "A", None)
            self.refused(BadScript, add, garden, None)
            garden.want(None)
            garden.copy()
            self.assertEqual((garden["b"], garden.has("x"), garden.wood_before(0)), ("a", False, W))
            self.assertEqual(garden.log, ())
            garden.do(TURN)
            self.assertEqual(garden.log, (("do", 1),))

    def test_rows_stay_though_edits_are_undone(self):
        for kind in LOGGED:
            garden = kind(W)
            rows = ()
            for number in range(70):
                garden.do(TURN)
                garden.undo()
                rows += (("do", 1), ("undo", 0))
            self.assertEqual((garden.log, garden.version), (rows, 0))

    def test_what_was_told_stays(self):
        for kind in LOGGED:
            garden = kind(W)
            garden.do(FRONT)
            told = garden.log
            garden.undo()
            self.assertEqual((told, garden.log), ((("do", 1),), (("do", 1), ("undo", 0))))
            with self.assertRaises(AttributeError):
                garden.log = ()

    def test_a_copy_has_its_own_log_from_then_on(self):
        for kind in LOGGED:
            garden = kind(W)
            garden.do(FRONT)
            other = garden.copy()
            self.assertEqual(other.log, (("do", 1),))
            garden += (TURN,)
            other.undo()
            other.together(lambda told: None)
            self.assertEqual(garden.log, (("do", 1), ("run", 2)))
            self.assertEqual(other.log, (("do", 1), ("undo", 0), ("together", 0)))

    def test_careful_and_logged(self):
        garden = CarefulLoggedGarden(W)
        self.assertIsInstance(garden, CarefulGarden)
        self.assertIsInstance(garden, LoggedGarden)
        self.refused(Lost, garden.do, ("cut", "a"))
        garden.do(TURN)
        other = garden.copy()
        self.assertIs(type(other), CarefulLoggedGarden)
        self.refused(Lost, other.do, ("cut", "a"))
        other.do(TURN)
        self.assertEqual((garden.log, other.log), ((("do", 1),), (("do", 1), ("do", 2))))
