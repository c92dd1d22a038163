"""[13]: lean, against all small woods that fit the whole script."""

from itertools import product

from tests.other_ways import all_deeds, fitting_woods, full_woods, plain_alike, plain_new_names
from tests.samples import ODD, Case, nested_list
from twigscripts.deeds import script_error
from twigscripts.errors import BadScript
from twigscripts.short import lean

DEEDS = all_deeds("ab")[::4] + [("put", "n", "a"), ("lift", "n"), ("front", "a"), ("turn", "a", "a"), ("cut", "b")]
ALWAYS = ("cut", "a"), ("cut", "a")


def plain_lean(script, woods):
    """The script that is left, told as the document tells it."""
    kept = script
    place = 0
    for _ in script:
        rest = kept[:place] + kept[place + 1:]
        if plain_alike(rest, kept, woods):
            kept = rest
        else:
            place += 1
    return kept


class Lean(Case):

    def right(self, script, woods=None):
        woods = full_woods(script) if woods is None else woods
        found = lean(script)
        self.assertEqual(found, plain_lean(script, woods), script)
        self.assertIsInstance(found, tuple)
        self.assertTrue(plain_alike(found, script, woods), script)
        return found

    def test_scripts_of_two_deeds(self):
        lengths = {len(self.right(script)) for script in product(DEEDS, repeat=2)}
        self.assertEqual(lengths, {0, 1, 2})

    def test_scripts_of_two_deeds_on_all_woods_with_two_nodes_more(self):
        for script in list(product(DEEDS, repeat=2))[::5]:
            self.right(script, fitting_woods(script, 2))

    def test_scripts_of_three_deeds(self):
        scripts = list(product(DEEDS, repeat=3))[::7]
        lengths = {len(self.right(script)) for script in scripts if len(plain_new_names(script)) <= 3}
        self.assertEqual(lengths, {0, 1, 2, 3})

    def test_three_names_on_all_woods_with_one_node_more(self):
        for script in ((("last", "a", "b"), ("last", "b", "c"), ("last", "a", "b")),
                       (("front", "c"), ("swap", "a", "b"), ("front", "c"), ("wrap", "a", "n"))):
            self.assertTrue(plain_alike(self.right(script), script, fitting_woods(script, 1)))

    def test_the_document(self):
        found = lean((("front", "a"), ("front", "b"), ("front", "a")))
        self.assertEqual(found, (("front", "b"), ("front", "a")))

    def test_the_empty_script(self):
        self.assertEqual(lean(()), ())

    def test_deeds_that_do_nothing_anywhere(self):
        front, idle = ("front", "a"), ("turn", "a", "a")
        for script in ((idle, front), (front, idle), (idle, front, idle), (idle, idle, front, idle), (front, front)):
            self.assertEqual(lean(script), (front,))
        self.assertEqual(lean((idle,)), ())
        self.assertEqual(lean((idle,) * 12), ())
        self.assertEqual(lean((("last", "a", "b"), idle, ("front", "b"))), (("last", "a", "b"), ("front", "b")))

    def test_one_deed_is_left_out_at_a_time(self):
        turn = ("turn", "a", "b")
        self.assertEqual(self.right((turn, turn)), (turn, turn))
        self.assertEqual(self.right((("wrap", "a", "n"), ("lift", "n"))), (("wrap", "a", "n"), ("lift", "n")))
        swap = ("swap", "a", "b")
        self.assertEqual(self.right((swap, swap, swap)), (swap, swap, swap))

    def test_the_first_ones_go_first(self):
        a, b = ("front", "a"), ("front", "b")
        self.assertEqual(self.right((a, b, a, b)), (a, b))
        self.assertEqual(self.right((a, a, b)), (a, b))
        self.assertEqual(self.right((("first", "a", "b"), ("last", "a", "b"))), (("last", "a", "b"),))

    def test_a_script_that_always_stops(self):
        self.assertEqual(self.right(ALWAYS), ALWAYS)
        self.assertEqual(self.right((("front", "a"),) + ALWAYS), ALWAYS)
        self.assertEqual(self.right(ALWAYS + (("front", "a"),)), (("cut", "a"), ("front", "a")))
        self.assertEqual(self.right((("last", "a", "a"), ("last", "b", "b"))), (("last", "b", "b"),))
        self.assertEqual(self.right((("put", "n", "n"), ("front", "a"))), (("put", "n", "n"),))

    def test_what_stops_where_the_whole_stops_is_alike(self):
        self.assertEqual(self.right((("last", "a", "b"), ("ahead", "a", "b"))), (("ahead", "a", "b"),))
        swap = ("swap", "a", "b")
        self.assertEqual(self.right((swap, ("front", "a"), ("front", "b"))), (swap, ("front", "a"), ("front", "b")))

    def test_names_that_would_be_old_or_new_otherwise(self):
        # What is left without the first deed makes a, which is there in each wood that fits the whole.
        script = (("cut", "a"), ("put", "a", "b"))
        self.assertEqual(self.right(script), script)
        script = (("turn", "a", "a"), ("cut", "c"), ("put", "a", "b"))
        self.assertEqual(self.right(script), script[1:])
        self.assertEqual(self.right((("turn", "a", "a"), ("put", "a", "b"))), (("put", "a", "b"),))
        # Without its first deed this one names a node that is not there.
        script = (("put", "n", "b"), ("front", "n"), ("cut", "n"))
        self.assertEqual(self.right(script), (script[0], script[2]))
        self.assertEqual(self.right((("wrap", "a", "n"), ("cut", "n"), ("cut", "n"))), (("cut", "n"),))
        script = (("turn", "n", "n"), ("cut", "n"), ("put", "n", "b"), ("cut", "n"))
        self.assertEqual(self.right(script), script[1:])

    def test_what_is_left_may_have_too_many_new_names(self):
        script = (("turn", "w", "w"), ("cut", "c")) + tuple(("put", name, "a") for name in "wxyz")
        self.assertIs(script_error(script), None)
        self.assertEqual(self.right(script), script[1:])
        self.assertEqual(script_error(script[1:]), (None, "new"))

    def test_twelve_deeds_of_four_names(self):
        script = tuple(("front", name) for name in "abcd" * 3)
        self.assertEqual(self.right(script), script[8:])
        script = (("turn", "a", "b"), ("swap", "c", "d"), ("pour", "a", "c")) * 4
        found = self.right(script)
        self.assertLess(len(found), 12)

    def test_no_script(self):
        for value, error in ((None, (None, "script")), ([], (None, "script")), ((("front", "A"),), (0, "name")),
                             ((("front", "a"), ("root", "a")), (1, "deed")), ((("cut", "a"),) * 13, (None, "script")),
                             (tuple(("front", name) for name in "abcde"), (None, "old")),
                             (tuple(("put", name, "a") for name in "wxyz"), (None, "new"))):
            self.assertEqual(self.refused(BadScript, lean, value).error, error)
        for value in ODD + (nested_list(100),):
            if value != ():
                self.refused(BadScript, lean, value)
                self.refused(BadScript, lean, (("front", "a"), value))

    def test_equal_calls_give_equal_results(self):
        script = (("front", "a"), ("front", "a"))
        self.assertEqual(lean(script), lean(tuple(list(script))))
        self.assertEqual(script, (("front", "a"), ("front", "a")))
