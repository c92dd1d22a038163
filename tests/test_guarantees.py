"""[1] and [2]: what is guaranteed over the whole program, with gardens and rows of many calls."""

import random

from tests.garden_ways import PlainGarden
from tests.other_ways import all_deeds, plain_script, wish_names
from tests.samples import BUSY, V, W, Case, all_woods, wide
from tests.test_gardens import CLASSES
from twigscripts.console import Console
from twigscripts.deeds import do_deed, do_script, new_names, old_names, script_error
from twigscripts.errors import Broken, Busy, Lost, NothingToUndo, Stopped, TooMany
from twigscripts.gardens import Garden
from twigscripts.moves import fewest, labels, lets_fewest
from twigscripts.pairs import alike, commutes, loses, within
from twigscripts.sayings import holds, told
from twigscripts.scripts import Script
from twigscripts.short import lean, plan, shortest
from twigscripts.tables import by_table, effect
from twigscripts.texts import read_script, read_wish, read_wood, script_text, wish_text, wood_text
from twigscripts.wishes import is_so, keeps, sure

DEEDS = all_deeds("abcd") + [("put", "n", "a"), ("wrap", "b", "n"), ("cut", "n"), ("last", "n", "c")]
WISHES = [("in", "b", "a"), ("in", "a", "b"), ("not", ("in", "d", "a")), ("here", "a"), ("ahead", "a", "d"),
          ("or", ("here", "n"), ("in", "c", "a")), ("not", ("here", "n")), ("and", ("here", "b"), ("here", "c"))]


class Stop(Exception):
    """An error that is none of the program's own."""


RAISED = (Stopped, Lost, Broken, Busy, NothingToUndo, Stop)


def some_script(chance, most=3):
    while True:
        script = tuple(chance.choice(DEEDS) for _ in range(chance.randint(0, most)))
        if script_error(script) is None:
            return script


class Both:
    """A garden and a plain one, to which the same is done; their answers have to be the same."""

    def __init__(self, case, garden, plain):
        self.case, self.garden, self.plain = case, garden, plain

    def answer(self, call, *args):
        """What a call returns, or the error that it raises, with its fields."""
        try:
            return call(*args)
        except RAISED as error:
            return (type(error), vars(error))

    def step(self, word, value):
        garden, plain = self.garden, self.plain
        calls = {
            "do": (garden.do, lambda deed: plain.edit("do", (deed,))),
            "run": (garden.run, lambda script: plain.edit("run", script)),
            "script": (lambda script: garden.run(Script(script)), lambda script: plain.edit("run", script)),
            "add": (lambda script: garden.__iadd__(script).version, lambda script: plain.edit("run", script)),
            "want": (garden.want, plain.want),
        }
        if word == "set":
            name, parent = value
            deed = ("back", name) if parent is None else ("last", name, parent)
            found = self.answer(lambda: (garden.__setitem__(name, parent), garden.version)[1])
            expected = self.answer(plain.edit, "set", (deed,))
        elif word == "undo":
            found, expected = self.answer(garden.undo), self.answer(plain.undo)
        else:
            found, expected = self.answer(calls[word][0], value), self.answer(calls[word][1], value)
        self.case.assertEqual(found, expected, (word, value))
        self.same()

    def same(self):
        garden = self.garden
        self.case.assertEqual((garden.wood, garden.version, garden.wish, garden.edits(), getattr(garden, "log", ())),
                              self.plain.state())

    def together(self, steps, error):
        """The same steps within together, at the end of which an error may be raised."""
        def work(_):
            for word, value in steps:
                self.step(word, value)
            if error is not None:
                raise error

        self.plain.begin()
        found = self.answer(self.garden.together, work)
        self.case.assertEqual(found, self.answer(self.plain.end, error))
        self.same()


def some_step(chance):
    word = chance.choice(("do", "do", "run", "script", "add", "set", "undo", "want"))
    if word in ("run", "script", "add"):
        return word, some_script(chance)
    if word == "set":
        return word, (chance.choice("abcdn"), chance.choice(("a", "b", "c", "d", "n", None)))
    return word, {"do": chance.choice(DEEDS), "want": chance.choice(WISHES + [None]), "undo": None}[word]


class Gardens(Case):

    def test_rows_of_many_calls(self):
        chance = random.Random(16)
        for number in range(48):
            kind = CLASSES[number % 4]
            both = Both(self, kind(W), PlainGarden(W, number % 2 == 1, number % 4 > 1))
            for _ in range(40):
                if chance.random() < 0.15:
                    steps = [some_step(chance) for _ in range(chance.randint(0, 6))]
                    both.together(steps, chance.choice((None, None, Stop())))
                else:
                    both.step(*some_step(chance))

    def test_deeds_of_all_edits_lead_to_the_present_wood(self):
        chance = random.Random(1)
        for kind in CLASSES * 5:
            garden = kind(BUSY)
            for _ in range(30):
                try:
                    scripts = [some_script(chance, 2) for _ in range(chance.randint(0, 3))]
                    garden.together(lambda inner: [inner.run(script) for script in scripts])
                except (Stopped, Lost):
                    garden.run(())
            wood = BUSY
            for script in garden.edits():
                for deed in script:
                    wood = do_deed(wood, deed)
            self.assertEqual(garden.wood, wood)
            self.assertEqual(garden.wood_before(garden.version), wood)

    def test_the_wish_is_so_whenever_anybody_looks(self):
        chance = random.Random(2)
        for kind in CLASSES * 6:
            garden = kind(W)
            for _ in range(40):
                word, value = some_step(chance)
                try:
                    if word == "want":
                        garden.want(value)
                    elif word == "undo":
                        garden.undo()
                    elif word == "do":
                        garden.together(lambda inner: (inner.do(value), inner.run(some_script(chance))))
                    elif word != "set":
                        garden.run(value)
                except RAISED:
                    pass
                self.assertTrue(garden.wish is None or is_so(garden.wish, garden.wood))

    def test_a_wish_that_keeps_is_never_broken(self):
        chance = random.Random(3)
        tried = 0
        while tried < 150:
            script, wish = some_script(chance), chance.choice(WISHES)
            try:
                against = keeps(script, wish)
            except TooMany:
                continue
            names = (set(old_names(script)) | wish_names(wish)) - set(new_names(script))
            for wood in all_woods(sorted(names)):
                if not is_so(wish, wood):
                    continue
                garden = Garden(wood)
                garden.want(wish)
                try:
                    garden.run(script)
                except Stopped:
                    pass
                except Broken:
                    self.assertIsNotNone(against, (script, wish, wood))
            if against is not None:
                garden = Garden(against)
                garden.want(wish)
                self.refused(Broken, garden.run, script)
            tried += 1

    def test_undo_of_what_loses_nothing(self):
        script = (("swap", "a", "d"), ("turn", "b", "c"))
        self.assertIs(loses(script), None)
        garden = Garden(W)
        garden += script
        garden += script[::-1]
        self.assertEqual(garden.wood, W)


class Woods(Case):

    def outcome(self, garden, *scripts):
        """The wood of a garden behind scripts, None if one stops."""
        try:
            garden.together(lambda inner: [inner.run(script) for script in scripts])
        except Stopped:
            return None
        return garden.wood

    def pairs(self, seed, many):
        chance = random.Random(seed)
        while many > 0:
            one, other = some_script(chance, 2), some_script(chance, 2)
            old, new = set(old_names(one) + old_names(other)), set(new_names(one) + new_names(other))
            if not old & new and len(old) <= 3:
                many -= 1
                yield one, other

    def test_gardens_of_the_woods_that_alike_and_within_return(self):
        kinds = set()
        for one, other in self.pairs(8, 150):
            wood, lone = alike(one, other), within(one, other)
            kinds.add((wood is None, lone is None))
            self.assertEqual(Script(one).parts(Script(other)), wood)
            self.assertIs(Script(one).is_within(Script(other)), lone is None)
            if wood is not None:
                self.assertNotEqual(self.outcome(Garden(wood), one), self.outcome(Garden(wood), other))
            if lone is not None:
                self.assertIsNotNone(self.outcome(Garden(lone), one))
                self.assertNotEqual(self.outcome(Garden(lone), one), self.outcome(Garden(lone), other))
        self.assertEqual(len(kinds), 3)

    def test_gardens_of_the_woods_that_commutes_returns(self):
        for one, other in self.pairs(9, 150):
            wood = commutes(one, other)
            if wood is not None:
                self.assertNotEqual(self.outcome(Garden(wood), one, other), self.outcome(Garden(wood), other, one))
            else:
                self.assertEqual(self.outcome(Garden(W), one, other), self.outcome(Garden(W), other, one))

    def test_gardens_of_the_woods_that_loses_returns(self):
        for one, _ in self.pairs(10, 150):
            pair = loses(one)
            if pair is not None:
                first, second = Garden(pair[0]), Garden(pair[1])
                self.assertIs(first == second, False)
                first.run(one)
                second += Script(one)
                self.assertIs(first == second, True)
                first.undo()
                second.undo()
                self.assertEqual((first.wood, second.wood), pair)

    def test_gardens_of_the_woods_that_sure_and_told_return(self):
        chance = random.Random(11)
        for one, _ in self.pairs(12, 150):
            ahead, behind = chance.choice(WISHES), chance.choice(WISHES)
            try:
                wood = sure(ahead, one, behind)
            except TooMany:
                wood = None
            if wood is not None:
                garden = Garden(wood)
                garden.want(ahead)
                garden.want(None)
                garden.run(one)
                self.refused(Broken, garden.want, behind)
            saying = chance.choice((("first", "a"), ("bare", "a"), ("root", "b"), ("child", "a", "b"),
                                    ("next", "a", "b")))
            found = told(one, saying)
            for wood, expected in zip(found[1:], (True, False)):
                garden = Garden(wood)
                garden.run(one)
                self.assertIs(holds(saying, garden.wood), expected)

    def test_tables_lean_and_shortest_do_what_the_script_does(self):
        for one, _ in self.pairs(13, 40):
            table, short = effect(one), lean(one)
            least = shortest(one) if len(old_names(one) + new_names(one)) <= 3 else one
            self.assertLessEqual(len(least), len(one))
            for wood in all_woods(old_names(one) + ("x",)):
                expected = self.outcome(Garden(wood), one)
                self.assertEqual(self.outcome(Garden(wood), least), expected)
                behind = plain_script(wood, short)
                self.assertEqual(None if expected is None else behind, expected)
                if expected is not None:
                    self.assertEqual(by_table(table, wood), expected)

    def test_plans_are_done_in_gardens(self):
        for ahead, behind in ((("in", "b", "a"), ("in", "a", "b")), (("in", "c", "a"), ("ahead", "a", "c")),
                              (("ahead", "a", "d"), ("ahead", "d", "a"))):
            script = plan(ahead, behind)
            garden = Garden(W)
            garden.want(ahead)
            garden.want(None)
            garden.run(script)
            garden.want(behind)
            self.assertEqual(garden.version, 1)

    def test_fewest_moves_as_edits(self):
        for one, other in ((W, V), (V, W), (wide(40), wide(40)[::-1])):
            garden = Garden(one)
            for deed in fewest(one, other):
                garden.do(deed)
            self.assertEqual(garden.wood, other)
            moves = tuple(deed for script in garden.edits() for deed in script)
            self.assertIs(lets_fewest(one, other, moves, labels(one, other)), True)

    def test_what_is_written_is_read_back(self):
        chance = random.Random(19)
        garden = Garden(BUSY)
        for number in range(60):
            script = some_script(chance, 5)
            self.assertEqual(read_script(script_text(script)), script)
            self.assertEqual(str(Script.of_text(script_text(script))), script_text(script))
            if self.outcome(garden, script) is None:
                garden.run(())
            self.assertEqual(read_wood(wood_text(garden.wood)), garden.wood)
            wish = ("and", chance.choice(WISHES), ("or", chance.choice(WISHES), ("not", chance.choice(WISHES))))
            self.assertEqual(read_wish(wish_text(wish)), wish)
            self.assertEqual(Console(garden).say("so " + wish_text(wish)), "yes" if is_so(wish, garden.wood) else "no")

    def test_results_beyond_the_limits_are_woods_everywhere(self):
        great = do_script(wide(120), (("put", "x", "naa"), ("put", "y", "x"), ("wrap", "naa", "z")))
        self.assertIs(is_so(("in", "y", "z"), great), True)
        self.assertIs(holds(("child", "y", "x"), great), True)
        self.assertEqual(by_table(effect((("lift", "x"),)), great), do_script(great, (("lift", "x"),)))
        self.assertEqual(fewest(great, do_deed(great, ("front", "y"))), (("front", "y"),))
        self.assertEqual(read_wood(wood_text(great)), great)
