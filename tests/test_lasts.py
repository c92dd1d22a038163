"""[5], [13]: which deeds may have led to a row, told by the row alone."""

from tests.other_ways import all_deeds
from tests.samples import Case
from twigscripts.steps import possible_lasts, result_of
from twigscripts.tables import gapped_row, skeleton_rows

DEEDS = all_deeds("abc")
NEST = gapped_row(("+a", "+b", "-b", "-a"))
TURNS = [("turn", "a", "a"), ("turn", "a", "b"), ("turn", "b", "a"), ("turn", "b", "b")]


def rows_behind(rows, deeds):
    """Each row behind one of these deeds."""
    results = [result_of(row, (deed,)) for row in rows for deed in deeds]
    return sorted({result[1] for result in results if result[0] == "does"}, key=str)


class PossibleLasts(Case):

    def all_are_told(self, rows):
        """No deed that leads to a row from one of these is left out there, and a row ahead is the right one."""
        told = {}
        for row in rows:
            for deed in DEEDS:
                result = result_of(row, (deed,))
                if result[0] == "does":
                    behind = result[1]
                    if behind not in told:
                        told[behind] = possible_lasts(behind, DEEDS)
                    self.assertIn(deed, told[behind], row)
                    self.assertIn(told[behind][deed], (None, row), (row, deed))
        return told

    def test_behind_one_deed(self):
        for names in ("", "a", "bc", "abc"):
            self.all_are_told([gapped_row(row) for row in skeleton_rows(names)])

    def test_behind_two_deeds(self):
        for names in ("a", "cb", "abc"):
            rows = [gapped_row(row) for row in skeleton_rows(names)]
            self.all_are_told(rows_behind(rows[::4], DEEDS)[::3])

    def test_behind_three_deeds_that_make_nodes_and_take_them_away(self):
        makers = [deed for deed in DEEDS if deed[0] in ("put", "wrap", "lift", "cut", "pour")]
        rows = rows_behind([NEST, gapped_row(("+c", "-c"))], makers)
        self.all_are_told(rows_behind(rows, makers)[::2])

    def test_most_deeds_are_left_out(self):
        rows = [gapped_row(row) for row in skeleton_rows("abc")]
        for row, lasts in self.all_are_told(rows).items():
            self.assertLess(len(lasts), 35, row)

    def test_rows_by_hand(self):
        deeds = all_deeds("ab")
        self.assertEqual(list(possible_lasts(NEST, deeds)), TURNS)
        self.assertEqual(possible_lasts(NEST, deeds)[TURNS[1]], gapped_row(("+b", "+a", "-a", "-b")))
        row = ("+b", 2, "-b", 0, "+a", 1, 3, "-a", 4)
        swaps = [("swap", "a", "b"), ("swap", "b", "a")]
        lasts = possible_lasts(row, deeds)
        self.assertEqual(list(lasts), [("front", "b")] + swaps + TURNS)
        self.assertIs(lasts["front", "b"], None)
        self.assertEqual(lasts[swaps[0]], ("+a", 1, 3, "-a", 0, "+b", 2, "-b", 4))
        self.assertEqual(list(possible_lasts(("+a", "-a"), all_deeds("a"))), [
            ("front", "a"), ("back", "a"), ("turn", "a", "a"), ("pour", "a", "a")])

    def test_what_each_deed_leaves(self):
        for row, deed in ((("+a", "-a", 0), ("front", "a")), ((0, "+a", "-a"), ("back", "a")), ((0,), ("lift", "a")),
                          ((), ("cut", "a")), (("+b", "+a", 1, "-a", 0, "-b"), ("first", "a", "b")),
                          (("+b", 1, "+a", 0, "-a", "-b"), ("last", "a", "b")),
                          (("+a", 1, "-a", "+b", 0, "-b"), ("ahead", "a", "b")),
                          (("+b", 1, "-b", "+a", 0, "-a"), ("behind", "a", "b")),
                          (("+b", 0, "+a", "-a", "-b"), ("pour", "a", "b")),
                          ((0, "+b", "+a", 1, "-a", "-b"), ("wrap", "a", "b")),
                          (("+b", 0, "+a", "-a", "-b"), ("put", "a", "b"))):
            self.assertIn(deed, possible_lasts(row, [deed]))
            parted = (8,) + tuple(item for place, end in enumerate(row) for item in (end, place + 10))
            if deed[0] not in ("lift", "cut"):
                self.assertNotIn(deed, possible_lasts(parted, [deed]))
            self.assertNotIn(deed, possible_lasts(("+c", 0, "-c") if deed[0] in ("front", "back") else NEST, [deed]))

    def test_in_the_order_of_the_deeds(self):
        row = ("+b", "+a", "-a", "-b")
        for deeds in (DEEDS, DEEDS[::-1], DEEDS[5::7]):
            lasts = possible_lasts(row, deeds)
            self.assertEqual(list(lasts), [deed for deed in deeds if deed in lasts])
