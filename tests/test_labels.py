"""[14]: labels, lets_labels and lets_fewest, against what the document calls right."""

import random
from itertools import combinations, product

from tests.other_ways import Lists
from tests.samples import BUSY, ODD, V, W, Case, all_woods, deep, nested_list, paths, wide
from twigscripts.deeds import do_script
from twigscripts.errors import Stopped
from twigscripts.moves import fewest, labels, least_moves, lets_fewest, lets_labels

FLAT = tuple((name, ()) for name in "abcdef")
MIXED = tuple((name, ()) for name in "bdafce")
INNER = (("k", FLAT), ("m", (("n", ()), ("o", ()), ("p", ()))))
OTHER = (("m", (("p", ()), ("n", ()), ("o", ()))), ("k", MIXED))
PAIRS = ((W, V), (V, W), (W, W), (FLAT, MIXED), (FLAT, FLAT[::-1]), (FLAT, FLAT), (INNER, OTHER), (OTHER, INNER),
         (BUSY, BUSY), (wide(12), wide(12)[5:] + wide(12)[:5]), (deep(5), wide(5)))


def staying(one, other):
    """The names that stay, ascending."""
    here, there = Lists(one), Lists(other)
    return sorted(name for name in here.above if here.above[name] == there.above[name])


def plain_right(one, other, value):
    """Whether value is a tuple of right labels, told pair by pair."""
    if not isinstance(value, tuple) or not all(isinstance(item, tuple) and len(item) == 2 for item in value):
        return False
    if [item[0] for item in value] != staying(one, other):
        return False
    if not all(type(label) is int and label >= 0 for _, label in value):
        return False
    here, there = Lists(one), Lists(other)
    for (a, label), (b, same) in combinations(value, 2):
        if here.above[a] == here.above[b] and label == same:
            if (here.place(a)[1] < here.place(b)[1]) == (there.place(a)[1] < there.place(b)[1]):
                return False
    return True


def many_labels(one, value):
    parents = Lists(one).above
    return len({(parents[name], label) for name, label in value})


def changed(value):
    """The tuple with one item left out, doubled, exchanged with the next one, or with another part."""
    for place, (name, label) in enumerate(value):
        yield value[:place] + value[place + 1:]
        yield value[:place] + value[place:place + 1] + value[place:]
        yield value[:place] + value[place:place + 2][::-1] + value[place + 2:]
        for other in (label + 1, label + 2, 0, -1, -label, 10 ** 39, True, False, None, str(label), [label], (label,)):
            yield value[:place] + ((name, other),) + value[place + 1:]
        for other in ("u", "", "A", name + "a", None, 0, [name], (name,), value[0][0]):
            yield value[:place] + ((other, label),) + value[place + 1:]
        for item in (name, [name, label], (name,), (name, label, label), (label, name), None, (), 0):
            yield value[:place] + (item,) + value[place + 1:]
    yield value + (("u", 0),)
    yield (("aa", 0),) + value


class Labels(Case):

    def test_right_and_as_few_as_there_are(self):
        for names in ((), ("a",), ("b", "a"), ("a", "c", "b")):
            for one, other in product(all_woods(names), repeat=2):
                found = labels(one, other)
                self.assertTrue(plain_right(one, other, found), (one, other, found))
                self.assertEqual(len(names) - many_labels(one, found), least_moves(one, other))

    def test_greater_woods(self):
        woods = all_woods(tuple("abcd"))
        for one, other in list(product(woods[::11], woods[::7])) + list(PAIRS):
            found = labels(one, other)
            self.assertTrue(plain_right(one, other, found), (one, other, found))
            self.assertEqual(len(paths(one)) - many_labels(one, found), least_moves(one, other))
            self.assertIs(lets_labels(one, other, found), True)
            self.assertIs(lets_fewest(one, other, fewest(one, other), found), True)

    def test_kinds_of_values(self):
        for one, other in PAIRS:
            found = labels(one, other)
            self.assertIsInstance(found, tuple)
            for item in found:
                self.assertEqual([type(part) for part in item], [str, int])
            self.assertEqual([name for name, _ in found], staying(one, other))

    def test_by_hand(self):
        self.assertEqual(len({label for _, label in labels(FLAT, FLAT)}), 6)
        self.assertEqual(len({label for _, label in labels(FLAT, FLAT[::-1])}), 1)
        self.assertEqual(labels(deep(2), wide(2)), (("naa", 0),))
        self.assertEqual(labels((("a", (("b", ()),)),), (("b", (("a", ()),)),)), ())
        self.assertEqual([name for name, _ in labels(W, V)], ["a", "b", "d"])

    def test_equal_calls_give_equal_results(self):
        for one, other in PAIRS:
            self.assertEqual(labels(one, other), labels(tuple(list(one)), tuple(list(other))))


class LetsLabels(Case):

    def test_the_document(self):
        self.assertIs(lets_labels(W, V, (("a", 0), ("b", 0), ("d", 1))), True)
        self.assertIs(lets_labels(W, V, (("a", 0), ("b", 0), ("d", 0))), True)

    def test_all_labels_of_small_woods(self):
        woods = all_woods(("a", "b", "c"))
        answers = set()
        for one, other in list(product(woods, repeat=2))[::3]:
            names = staying(one, other)
            for told in product(range(3), repeat=len(names)):
                value = tuple(zip(names, told))
                found = lets_labels(one, other, value)
                self.assertIs(found, plain_right(one, other, value), (one, other, value))
                answers.add(found)
        self.assertEqual(answers, {True, False})

    def test_labels_that_are_changed(self):
        for one, other in PAIRS:
            for value in changed(labels(one, other)):
                self.assertIs(lets_labels(one, other, value), plain_right(one, other, value), (one, other, value))

    def test_as_many_labels_as_names_are_right(self):
        for one, other in PAIRS:
            value = tuple((name, 10 ** 39 + at) for at, name in enumerate(staying(one, other)))
            self.assertIs(lets_labels(one, other, value), True)

    def test_one_label_for_names_of_unlike_parents(self):
        one = (("a", (("b", ()),)), ("c", (("d", ()),)))
        self.assertIs(lets_labels(one, one, (("a", 0), ("b", 0), ("c", 1), ("d", 0))), True)
        self.assertIs(lets_labels(one, one, (("a", 0), ("b", 0), ("c", 0), ("d", 1))), False)
        other = one[::-1]
        self.assertIs(lets_labels(one, other, (("a", 0), ("b", 0), ("c", 0), ("d", 0))), True)

    def test_three_in_a_row_with_one_label(self):
        three = FLAT[:3]
        for other, expected in ((three[::-1], True), ((three[2], three[0], three[1]), False),
                                ((three[1], three[2], three[0]), False), ((three[2], three[1], three[0]), True)):
            self.assertIs(lets_labels(three, other, (("a", 7), ("b", 7), ("c", 7))), expected)

    def test_names_that_do_not_stay(self):
        self.assertIs(lets_labels(W, V, (("a", 0), ("b", 0), ("c", 0), ("d", 0))), False)
        self.assertIs(lets_labels(deep(2), wide(2), (("naa", 0),)), True)
        self.assertIs(lets_labels(deep(2), wide(2), (("naa", 0), ("nab", 1))), False)
        self.assertIs(lets_labels(deep(2), wide(2), (("nab", 0),)), False)
        self.assertIs(lets_labels(deep(2), wide(2), ()), False)

    def test_odd_values(self):
        value = labels(W, V)
        for odd in ODD + (nested_list(100), list(value), dict(value), [list(item) for item in value], "abd"):
            self.assertIs(lets_labels(W, V, odd), False, odd)
            self.assertIs(lets_labels(W, V, (odd,)), False)
            self.assertIs(lets_labels(W, V, value + (odd,)), False)
        self.assertIs(lets_labels(W, V, ()), False)
        self.assertIs(lets_labels((), (), []), False)

    def test_labels_that_are_no_integers_from_0_on(self):
        for label, expected in ((0, True), (1, True), (10 ** 39, True), (-1, False), (-10 ** 39, False), (True, False),
                                (False, False), (None, False), ("0", False), ((), False), ([], False), ({}, False)):
            self.assertIs(lets_labels(W, V, (("a", 5), ("b", label), ("d", 6))), expected, label)

    def test_eight_hundred_items(self):
        value = tuple((name, at) for at, name in enumerate(staying(wide(120), wide(120))))
        self.assertIs(lets_labels(wide(120), wide(120), value), True)
        self.assertIs(lets_labels(wide(120), wide(120), value * 3), False)

    def test_results_greater_than_what_is_passed(self):
        value = tuple((name, 0) for name in sorted(paths(wide(400))))
        self.assertIs(lets_labels(wide(400), wide(400)[::-1], value), True)
        self.assertIs(lets_labels(wide(400), wide(400), value), False)


class LetsFewest(Case):

    def plain_answer(self, one, other, moves, value):
        try:
            behind = do_script(one, moves)
        except Stopped:
            return False
        right = plain_right(one, other, value)
        return behind == other and right and many_labels(one, value) == len(paths(one)) - len(moves)

    def test_the_document(self):
        value = (("a", 0), ("b", 0), ("d", 0))
        self.assertIs(lets_fewest(W, V, (("front", "d"), ("first", "c", "d")), value), True)

    def test_any_right_answer_is_let(self):
        value = labels(W, V)
        for moves in ((("first", "c", "d"), ("front", "d")), (("ahead", "d", "a"), ("last", "c", "d")),
                      (("last", "c", "d"), ("back", "a")), (("back", "a"), ("first", "c", "d"))):
            self.assertIs(lets_fewest(W, V, moves, value), True)
            self.assertIs(lets_fewest(W, V, moves, (("a", 3), ("b", 0), ("d", 3))), True)

    def test_more_labels_or_more_moves_are_not_let(self):
        moves, value = fewest(W, V), labels(W, V)
        self.assertIs(lets_fewest(W, V, moves, (("a", 0), ("b", 0), ("d", 1))), False)
        self.assertIs(lets_fewest(W, V, moves + (("front", "d"),), value), False)
        self.assertIs(lets_fewest(W, V, moves + (("front", "d"),), (("a", 0), ("b", 0), ("d", 1))), False)
        self.assertIs(lets_fewest(W, W, (), labels(W, W)), True)
        self.assertIs(lets_fewest(W, W, (("front", "a"),), labels(W, W)), False)

    def test_moves_that_are_changed(self):
        chance = random.Random(14)
        answers = set()
        for one, other in PAIRS:
            moves, value = fewest(one, other), labels(one, other)
            self.assertIs(lets_fewest(one, other, moves, value), True)
            names = sorted(paths(one)) + ["u"]
            for place, move in enumerate(moves):
                rows = [moves[:place] + moves[place + 1:], moves[:place] + (move,) + moves[place:],
                        moves[:place] + moves[place:place + 2][::-1] + moves[place + 2:]]
                for word in ("first", "last", "ahead", "behind", "front", "back"):
                    told = (word, move[1]) + (() if word in ("front", "back") else (chance.choice(names),))
                    rows.append(moves[:place] + (told,) + moves[place + 1:])
                rows.append(moves[:place] + (move[:1] + ("u",) + move[2:],) + moves[place + 1:])
                for row in rows:
                    found = lets_fewest(one, other, row, value)
                    self.assertIs(found, self.plain_answer(one, other, row, value), (one, other, row, value))
                    answers.add(found)
        self.assertEqual(answers, {True, False})

    def test_labels_that_are_changed(self):
        for one, other in PAIRS:
            moves = fewest(one, other)
            for value in changed(labels(one, other)):
                found = lets_fewest(one, other, moves, value)
                self.assertIs(found, self.plain_answer(one, other, moves, value), (one, other, value))

    def test_deeds_that_are_no_moves(self):
        a, b = (("a", ()), ("b", ())), (("b", ()), ("a", ()))
        value = (("a", 0), ("b", 0))
        self.assertIs(lets_fewest(a, b, (("front", "b"),), value), True)
        for deed in (("swap", "a", "b"), ("turn", "a", "b"), ("swap", "b", "a")):
            self.assertEqual(do_script(a, (deed,)), b)
            self.assertIs(lets_fewest(a, b, (deed,), value), False)
        self.assertIs(lets_fewest(a, b, (("lift", "a"), ("put", "a", "b")), ()), False)
        one, other = (("a", ()), ("b", (("c", ()),))), (("a", (("c", ()),)), ("b", ()))
        self.assertIs(lets_fewest(one, other, (("last", "c", "a"),), (("a", 0), ("b", 1))), True)
        self.assertIs(lets_fewest(one, other, (("pour", "b", "a"),), (("a", 0), ("b", 1))), False)

    def test_moves_that_stop(self):
        value = labels(W, V)
        for moves in ((("front", "d"), ("first", "c", "c")), (("last", "a", "b"), ("first", "c", "d")),
                      (("front", "d"), ("first", "c", "u")), (("front", "u"), ("first", "c", "d"))):
            self.assertIs(lets_fewest(W, V, moves, value), False)

    def test_odd_values(self):
        moves, value = fewest(W, V), labels(W, V)
        for odd in ODD + (nested_list(100), list(moves), [list(move) for move in moves], dict(value)):
            self.assertIs(lets_fewest(W, V, odd, value), False, odd)
            self.assertIs(lets_fewest(W, V, moves, odd), False, odd)
            for place, move in enumerate(moves):
                self.assertIs(lets_fewest(W, V, moves[:place] + (odd,) + moves[place + 1:], value), False, odd)
                for at in range(len(move)):
                    told = move[:at] + (odd,) + move[at + 1:]
                    self.assertIs(lets_fewest(W, V, moves[:place] + (told,) + moves[place + 1:], value), False, odd)
        self.assertIs(lets_fewest(W, V, moves[0], value), False)
        self.assertIs(lets_fewest(W, V, (), value), False)
        self.assertIs(lets_fewest(W, V, moves, ()), False)
        self.assertIs(lets_fewest(W, W, [], labels(W, W)), False)
        self.assertIs(lets_fewest(W, V, list(moves), value), False)

    def test_more_than_twelve_moves(self):
        row = wide(120)
        moves, value = fewest(row, row[::-1]), labels(row, row[::-1])
        self.assertEqual(len(moves), 119)
        self.assertIs(lets_fewest(row, row[::-1], moves, value), True)
        self.assertIs(lets_fewest(row, row[::-1], moves[:-1], value), False)
        self.assertIs(lets_fewest(row, row[::-1], moves * 2, value), False)

    def test_arguments_stay_as_they_are(self):
        moves, value = [["front", "d"]], [["a", 0]]
        self.assertIs(lets_fewest(W, V, moves, value), False)
        self.assertIs(lets_labels(W, V, value), False)
        self.assertEqual((moves, value), ([["front", "d"]], [["a", 0]]))
