"""[17]: together, for gardens of all four classes."""

from tests.samples import ODD, W, deep, name_at, wide
from tests.test_gardens import BACK, BREAK, FRONT, STOP, TURN, WISH, Kinds, add, put, state
from twigscripts.deeds import do_script
from twigscripts.errors import (
    BadDeed, BadScript, BadWish, BadWood, Broken, Busy, Clash, Lost, NoName, NothingToUndo, NoVersion, Stopped,
    TooMany, TooManyEdits, Unlike,
)
from twigscripts.gardens import CarefulGarden, CarefulLoggedGarden, Garden, LoggedGarden
from twigscripts.pairs import alike
from twigscripts.scripts import Script


class Stop(Exception):
    """An error that is none of the program's own."""


def nothing(garden):
    pass


class Together(Kinds):

    def test_nothing_done(self):
        for garden in self.each():
            self.assertEqual(garden.together(nothing), 0)
            self.assertEqual((garden.version, garden.edits(), garden.wood), (0, (), W))
            garden.do(FRONT)
            self.assertEqual(garden.together(nothing), 1)
            self.assertEqual((garden.version, garden.edits()), (1, ((FRONT,),)))

    def test_one_script(self):
        for garden in self.each():
            self.assertEqual(garden.together(lambda told: told.run((FRONT, BACK))), 1)
            self.assertEqual(garden.edits(), ((FRONT, BACK),))
            self.assertEqual(garden.together(lambda told: told.run(())), 2)
            self.assertEqual(garden.edits(), ((FRONT, BACK), ()))
            self.assertEqual(garden.together(lambda told: told.do(TURN)), 3)
            self.assertEqual(garden.edits()[2], (TURN,))

    def test_several(self):
        def work(told):
            self.assertEqual(told.do(FRONT), 2)
            self.assertEqual(told.run((BACK, TURN)), 3)
            told["c"] = "d"
            told += Script((TURN,))
            self.assertEqual((told.version, len(told.edits())), (5, 5))
            self.assertEqual(told.edits(), ((TURN,), (FRONT,), (BACK, TURN), (("last", "c", "d"),), (TURN,)))

        for garden in self.each():
            garden.do(TURN)
            self.assertEqual(garden.together(work), 2)
            whole = (FRONT, BACK, TURN, ("last", "c", "d"), TURN)
            self.assertEqual((garden.version, garden.edits()), (2, ((TURN,), whole)))
            self.assertEqual(garden.wood, do_script(garden.wood_before(1), whole))
            self.assertEqual((garden.undo(), garden.wood), (1, do_script(W, (TURN,))))

    def test_it_is_called_with_the_very_garden(self):
        for garden in self.each():
            seen = []
            garden.together(seen.append)
            self.assertEqual(len(seen), 1)
            self.assertIs(seen[0], garden)

    def test_the_garden_under_both_of_its_names(self):
        for garden in self.each():
            def work(told, own=garden):
                own.do(FRONT)
                told.do(BACK)
                self.assertEqual((own.version, told.version, own.wood), (2, 2, told.wood))
                put(own, "c", None)

            self.assertEqual(garden.together(work), 1)
            self.assertEqual(garden.edits(), ((FRONT, BACK, ("back", "c")),))

    def test_what_work_returns_plays_no_part(self):
        for garden in self.each():
            for value in (None, False, 7, "x", Stop(), ()):
                before = garden.version
                self.assertEqual(garden.together(lambda told, value=value: (told.do(TURN), value)[1]), before + 1)
                self.assertEqual(garden.together(lambda told, value=value: value), before + 1)

    def test_more_deeds_and_names_than_a_script_may_have(self):
        def work(told):
            for number in range(20):
                told.do(("put", name_at(number), "a"))

        for garden in self.each():
            self.assertEqual(garden.together(work), 1)
            self.assertEqual((len(garden), len(garden.edits()[0])), (24, 20))
            self.assertEqual((garden.undo(), garden.wood), (0, W))

    def test_undone_within(self):
        def work(told):
            told.do(FRONT)
            told.do(BACK)
            self.assertEqual(told.undo(), 2)
            told.do(TURN)
            self.assertEqual(told.edits(), ((TURN,), (FRONT,), (TURN,)))

        def vain(told):
            told.do(FRONT)
            told.run((BACK, TURN))
            self.assertEqual((told.undo(), told.undo()), (2, 1))
            self.refused(NothingToUndo, told.undo)

        for garden in self.each():
            garden.do(TURN)
            self.assertEqual(garden.together(work), 2)
            self.assertEqual(garden.edits(), ((TURN,), (FRONT, TURN)))
            garden.undo()
            self.assertEqual(garden.together(vain), 1)
            self.assertEqual(garden.edits(), ((TURN,),))

    def test_nothing_ahead_is_undone_within(self):
        for garden in self.each():
            garden.do(FRONT)
            self.assertEqual(garden.together(lambda told: self.refused(NothingToUndo, told.undo)), 1)
            before = state(garden)
            self.refused(NothingToUndo, garden.together, Garden.undo)
            self.assertEqual(state(garden), before)
            self.assertEqual(garden.undo(), 0)

    def test_what_can_be_asked_within(self):
        def work(told):
            told.do(("put", "n", "d"))
            self.assertEqual((told["n"], told.has("n"), len(told), str(told)), ("d", True, 5, "5 nodes, 2 edits"))
            self.assertEqual((told.names(), told.wish), (("d", "n", "a", "b", "c"), WISH))
            self.assertEqual(told.wood, do_script(W, (FRONT, ("put", "n", "d"))))
            self.refused(NoName, lambda: told["u"])
            told.undo()

        for garden in self.each():
            garden.want(WISH)
            garden.do(FRONT)
            self.assertEqual(garden.together(work), 1)

    def test_stopped_within_and_caught_by_work(self):
        def work(told):
            told.do(FRONT)
            error = self.refused(Stopped, told.run, (BACK, STOP))
            self.assertEqual((error.index, error.word, told.version), (1, "inside", 1))
            self.refused(BadDeed, told.do, None)
            self.refused(BadScript, add, told, [])
            told.do(TURN)

        for garden in self.each():
            self.assertEqual(garden.together(work), 1)
            self.assertEqual(garden.edits(), ((FRONT, TURN),))


class Raised(Kinds):

    def raises(self, garden, error_class, work):
        """The error that together passes on; nothing is left of what work did."""
        before = state(garden)
        copied = garden.copy()
        with self.assertRaises(error_class) as found:
            garden.together(work)
        self.assertIs(type(found.exception), error_class)
        self.assertEqual(state(garden), before)
        self.assertEqual(state(garden.copy()), state(copied))
        self.assertEqual(garden.together(nothing), garden.version)
        return found.exception

    def test_an_error_of_each_kind_at_the_end(self):
        for garden in self.each():
            garden.do(FRONT)
            for error in (Stop("x"), ValueError(1), KeyError("a"), TypeError(), KeyboardInterrupt(), GeneratorExit(),
                          Stopped(3, "gone"), NoName("a"), Busy(), Broken(), Lost("a"), TooManyEdits(), BadWish(None)):
                def work(told, error=error):
                    told.do(BACK)
                    told.run((TURN, ("put", "n", "a")))
                    told.undo()
                    raise error

                self.assertIs(self.raises(garden, type(error), work), error)

    def test_errors_of_calls_within_go_on(self):
        def first(told, call, *args):
            told.do(FRONT)
            call(*args)

        for garden in self.each():
            for error_class, call, args in (
                    (Stopped, garden.do, (STOP,)), (BadDeed, garden.do, (None,)), (BadScript, garden.run, (None,)),
                    (NoName, garden.__getitem__, ("u",)), (BadWood, Garden, (None,)), (Unlike, Script().parts, (None,)),
                    (Clash, alike, ((("put", "n", "a"),), (("cut", "n"),))), (Busy, garden.want, (None,)),
                    (TooMany, alike, ((("last", "a", "b"), ("last", "c", "d")), (("cut", "e"),)))):
                self.raises(garden, error_class, lambda told: first(told, call, *args))

    def test_the_first_ones_are_taken_back_too(self):
        def work(told):
            for _ in range(10):
                told.do(TURN)
            told.do(STOP)

        for garden in self.each():
            garden.want(WISH)
            self.raises(garden, Stopped, work)
            self.assertEqual(garden.wood, W)
            garden.do(("turn", "c", "d"))
            self.raises(garden, Stopped, work)
            self.assertEqual(garden.undo(), 0)

    def test_other_objects_stay_as_work_left_them(self):
        for garden in self.each():
            other = type(garden)(W)
            seen = []

            def work(told, other=other, seen=seen):
                other.do(FRONT)
                other.together(lambda inner: inner.run((BACK, TURN)))
                seen.append(told.do(FRONT))
                raise Stop

            self.raises(garden, Stop, work)
            self.assertEqual((other.edits(), seen), (((FRONT,), (BACK, TURN)), [1]))


class WhileBusy(Kinds):

    def test_four_calls_are_refused_ahead_of_all_else(self):
        def work(told):
            for value in ODD + (WISH, ("here", "u"), 1):
                self.refused(Busy, told.want, value)
                self.refused(Busy, told.wood_before, value)
            self.refused(Busy, told.copy)
            self.refused(Busy, told.together, nothing)
            told.do(FRONT)
            self.refused(Busy, told.together, lambda inner: inner.do(STOP))
            self.refused(Busy, told.copy)

        for garden in self.each():
            garden.want(WISH)
            self.assertEqual(garden.together(work), 1)
            self.assertEqual((garden.edits(), garden.wish), (((FRONT,),), WISH))

    def test_busy_no_more_behind_it(self):
        for garden in self.each():
            garden.together(nothing)
            for work in (None, lambda told: told.do(STOP), lambda told: told.together(nothing)):
                if work is not None:
                    with self.assertRaises((Stopped, Busy)):
                        garden.together(work)
                garden.want(None)
                self.assertEqual(garden.wood_before(0), W)
                self.assertEqual(garden.copy(), garden)
                self.assertEqual(garden.together(nothing), 0)
                self.refused(NoVersion, garden.wood_before, 1)
                self.refused(NothingToUndo, garden.undo)

    def test_another_garden_is_not_busy(self):
        def work(told, other):
            other.do(TURN)
            other.want(None)
            self.assertEqual(other.copy(), other)
            self.assertEqual(other.together(lambda inner: self.refused(Busy, inner.copy)), 1)
            self.refused(Busy, told.copy)
            told.do(FRONT)

        for garden in self.each():
            other = Garden(W)
            self.assertEqual(garden.together(lambda told: work(told, other)), 1)
            self.assertEqual((other.edits(), garden.edits()), (((TURN,),), ((FRONT,),)))


class Sixty(Kinds):

    def test_sixty_edits_reached_within(self):
        def work(told):
            while told.version < 60:
                told.do(TURN)
            for call, value in ((told.do, TURN), (told.run, ()), (told.do, None)):
                self.refused(TooManyEdits, call, value)
            self.refused(TooManyEdits, put, told, "b", "d")
            self.assertEqual(told.undo(), 59)
            self.assertEqual(told.run(()), 60)

        for garden in self.each():
            for many in (0, 1, 30, 59):
                while garden.version < many:
                    garden.do(TURN)
                self.assertEqual(garden.together(work), many + 1)
                self.assertEqual(garden.edits()[-1], (TURN,) * (59 - many) if many < 59 else ())

    def test_together_itself_is_no_edit_too_many(self):
        for garden in self.each():
            while garden.version < 60:
                garden.do(TURN)
            self.assertEqual(garden.together(nothing), 60)
            self.assertEqual(garden.together(lambda told: self.refused(TooManyEdits, told.run, ())), 60)
            before = state(garden)
            self.refused(TooManyEdits, garden.together, lambda told: told.do(TURN))
            self.assertEqual(state(garden), before)


class WishBehind(Kinds):

    def test_the_wish_is_looked_at_behind_the_call_alone(self):
        def work(told):
            told.do(BREAK)
            self.assertEqual(told["b"], None)
            told.do(FRONT)
            told["b"] = "a"

        for garden in self.each():
            garden.want(WISH)
            self.assertEqual(garden.together(work), 1)
            self.assertEqual(garden.edits(), ((BREAK, FRONT, ("last", "b", "a")),))

    def test_a_wish_that_is_not_so_behind(self):
        for garden in self.each():
            garden.want(WISH)
            garden.do(FRONT)
            before = state(garden)
            for work in (lambda told: told.do(BREAK), lambda told: put(told, "b", "d"),
                         lambda told: told.run((BREAK, FRONT)), lambda told: (told.do(FRONT), told.do(BREAK))):
                self.refused(Broken, garden.together, work)
                self.assertEqual(state(garden), before)

    def test_broken_and_taken_back_within(self):
        def work(told):
            told.do(BREAK)
            told.undo()

        def long(told):
            told.do(FRONT)
            told.do(BREAK)
            told.do(("last", "b", "a"))
            told.undo()
            told.undo()

        for garden in self.each():
            garden.want(WISH)
            self.assertEqual(garden.together(work), 0)
            self.assertEqual(garden.together(long), 1)
            self.assertEqual(garden.edits(), ((FRONT,),))

    def test_undo_within_looks_at_no_wish(self):
        def work(told):
            told.do(BREAK)
            told.do(("last", "b", "a"))
            self.assertEqual((told.undo(), told["b"]), (1, None))
            told.do(("first", "b", "a"))

        for garden in self.each():
            garden.want(WISH)
            self.assertEqual(garden.together(work), 1)
            self.assertEqual(garden.edits(), ((BREAK, ("first", "b", "a")),))

    def test_undo_of_the_whole_looks_at_the_wish(self):
        for garden in self.each():
            garden.together(lambda told: (told.do(("last", "d", "a")), told.do(FRONT), told.do(("last", "d", "a"))))
            garden.want(("in", "d", "a"))
            self.same(garden, Broken, garden.undo)
            garden.together(lambda told: told.do(("first", "d", "a")))
            self.assertEqual(garden.undo(), 1)


class Careful(Kinds):

    def test_each_edit_within_is_asked(self):
        def work(told):
            told.do(FRONT)
            self.assertEqual(self.refused(Lost, told.do, ("cut", "d")).name, "d")
            self.assertEqual(self.refused(Lost, told.run, (("cut", "d"), TURN)).name, "d")
            told.do(("put", "n", "a"))
            self.assertEqual(self.refused(Lost, told.do, ("lift", "n")).name, "n")
            told.run((("cut", "d"), ("put", "d", "a")))

        for kind in (CarefulGarden, CarefulLoggedGarden):
            garden = kind(W)
            self.assertEqual(garden.together(work), 1)
            self.assertEqual(garden.edits(), ((FRONT, ("put", "n", "a"), ("cut", "d"), ("put", "d", "a")),))
            before = state(garden)
            self.refused(Lost, garden.together, lambda told: (told.do(FRONT), told.do(("cut", "a"))))
            self.assertEqual(state(garden), before)

    def test_undo_within_may_take_nodes_away(self):
        for kind in (CarefulGarden, CarefulLoggedGarden):
            garden = kind(W)
            self.assertEqual(garden.together(lambda told: (told.do(("put", "n", "a")), told.undo())), 0)
            self.assertIs(garden.has("n"), False)


class Logs(Kinds):

    def work(self, told):
        told.do(FRONT)
        told += (BACK,)
        told["c"] = None
        told.undo()
        self.refused(Stopped, told.do, STOP)

    def test_rows_of_calls_within_stand_ahead(self):
        for kind in (LoggedGarden, CarefulLoggedGarden):
            garden = kind(W)
            garden.do(FRONT)
            garden.together(self.work)
            rows = (("do", 1), ("do", 2), ("run", 3), ("set", 4), ("undo", 3), ("together", 2))
            self.assertEqual(garden.log, rows)
            garden.together(nothing)
            self.assertEqual(garden.log, rows + (("together", 2),))

    def test_rows_are_taken_back_if_it_raises(self):
        def fails(told):
            self.work(told)
            self.assertEqual(len(told.log), 5)
            raise Stop

        for kind in (LoggedGarden, CarefulLoggedGarden):
            garden = kind(W)
            garden.do(FRONT)
            garden.want(WISH)
            for error_class, work in ((Stop, fails), (Broken, lambda told: told.do(BREAK)), (Busy, Garden.copy),
                                      (Stopped, lambda told: (told.do(BACK), told.do(STOP)))):
                with self.assertRaises(error_class):
                    garden.together(work)
                self.assertEqual(garden.log, (("do", 1),))


class Beyond(Kinds):

    def test_woods_beyond_the_limits(self):
        def work(told):
            for number in range(40):
                told.do(("put", name_at(300 + number), name_at(0)))

        for garden in self.each(wide(120)):
            self.assertEqual(garden.together(work), 1)
            self.assertEqual(len(garden), 160)
            self.assertEqual(garden.together(lambda told: told.do(("front", name_at(339)))), 2)
            self.assertEqual(garden.undo(), 1)
        for garden in self.each(deep(40)):
            self.assertEqual(garden.together(lambda told: told.do(("wrap", name_at(0), "x"))), 1)
            self.assertEqual(garden[name_at(0)], "x")
