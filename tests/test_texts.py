"""[19]: woods, scripts and wishes written as texts and read back."""

from tests.other_ways import all_deeds
from tests.samples import BUSY, ODD, V, W, Case, deep, few_woods, name_at, nested_list, paths, wide
from tests.text_ways import changed_texts, plain_position, plain_wood_text
from twigscripts.errors import BadText
from twigscripts.texts import read_script, read_wish, read_wood, script_text, wish_text, wood_text

HERE = ("here", "c")
WISH = ("and", ("in", "a", "b"), ("not", HERE))
READERS = {"wood": read_wood, "script": read_script, "wish": read_wish}
WRITERS = {"wood": wood_text, "script": script_text, "wish": wish_text}


def nested(many, inner=HERE):
    """A wish with so many others around one."""
    for place in range(many):
        inner = ("not", inner) if place % 3 else ("or", inner, ("in", "a", "b"))
    return inner


class Written(Case):

    def test_the_document(self):
        self.assertEqual(wood_text((("a", (("b", ()), ("c", (("d", ()),)))), ("e", ()))), "a(b c(d)) e")
        self.assertEqual(script_text((("last", "a", "b"), ("cut", "c"))), "last a b; cut c")
        self.assertEqual(wish_text(WISH), "and(in(a b) not(here(c)))")
        self.assertEqual((wood_text(()), script_text(())), ("-", "-"))

    def test_woods(self):
        for wood in few_woods() + [wide(400)]:
            text = wood_text(wood)
            if len(paths(wood)) > 0:
                self.assertEqual(text, plain_wood_text(wood))
            if wood != deep(100) and wood != deep(150):
                self.assertEqual(read_wood(text), wood)

    def test_scripts(self):
        for deed in all_deeds(("a", "abcdefgh")):
            text = " ".join(deed)
            self.assertEqual(script_text((deed,)), text)
            self.assertEqual(read_script(text), (deed,))
        deeds = tuple(all_deeds("ab"))
        self.assertEqual(script_text(deeds), "; ".join(" ".join(deed) for deed in deeds))
        self.assertEqual(read_script(script_text(deeds * 5)), deeds * 5)

    def test_wishes(self):
        leaves = [("in", "a", "b"), ("ahead", "abcdefgh", "b"), ("here", "a"), ("here", "abcdefgh")]
        for leaf, text in zip(leaves, ("in(a b)", "ahead(abcdefgh b)", "here(a)", "here(abcdefgh)")):
            self.assertEqual(wish_text(leaf), text)
            self.assertEqual(read_wish(text), leaf)
            for other in leaves:
                for word in ("and", "or"):
                    self.assertEqual(wish_text((word, leaf, other)), word + "(" + text + " " + wish_text(other) + ")")
                    self.assertEqual(read_wish(wish_text((word, leaf, other))), (word, leaf, other))
            self.assertEqual(wish_text(("not", leaf)), "not(" + text + ")")
            self.assertEqual(read_wish("not(" + text + ")"), ("not", leaf))

    def test_the_empty_ones(self):
        self.assertEqual((read_wood("-"), read_script("-")), ((), ()))
        self.assertEqual(self.refused(BadText, read_wish, "-").position, 0)
        for read in (read_wood, read_script):
            for text, place in (("--", 1), ("- ", 1), ("-a", 1), (" -", 0), ("", 0), ("-; cut a", 1), ("- a", 1)):
                self.assertEqual(self.refused(BadText, read, text).position, place)

    def test_wishes_of_more_than_twelve(self):
        wish = ("here", "a")
        for _ in range(4):
            wish = ("and", wish, ("or", ("ahead", "b", "c"), wish))
        self.assertEqual(read_wish(wish_text(wish)), wish)

    def test_the_same_name_again(self):
        self.assertEqual(read_wood("a a(a a)"), (("a", ()), ("a", (("a", ()), ("a", ())))))
        self.assertEqual(read_script("put a a; swap a a"), (("put", "a", "a"), ("swap", "a", "a")))
        self.assertEqual(read_wish("in(a a)"), ("in", "a", "a"))

    def test_scripts_of_any_size(self):
        many = tuple(("front", name_at(number)) for number in range(300))
        self.assertEqual(read_script(script_text(many)), many)


class Deepest(Case):

    def test_woods_at_most_forty_brackets_deep(self):
        self.assertEqual(wood_text(deep(41)).count("("), 40)
        self.assertEqual(read_wood(wood_text(deep(41))), deep(41))
        for many in (38, 39, 40):
            self.assertEqual(read_wood(wood_text(deep(many))), deep(many))
            inside = (("x", ()), ("y", ()))
            both = (("o", deep(many - 1, inside)), ("p", ()), ("q", deep(many - 1)))
            self.assertEqual(read_wood(wood_text(both)), both)
        for many, inside in ((42, ()), (43, ()), (41, (("x", ()), ("y", ()))), (150, ())):
            text = wood_text(deep(many, inside))
            place = [place for place, char in enumerate(text) if char == "("][40]
            self.assertEqual(self.refused(BadText, read_wood, text).position, place)

    def test_brackets_one_behind_the_other_are_not_open_at_once(self):
        wood = tuple((name_at(number), deep(39)) for number in range(100, 103))
        self.assertEqual(wood_text(wood).count("("), 117)
        self.assertEqual(read_wood(wood_text(wood)), wood)

    def test_wishes_at_most_forty_brackets_deep(self):
        for many in (38, 39):
            self.assertEqual(read_wish(wish_text(nested(many))), nested(many))
            self.assertEqual(read_wish(wish_text(nested(many, ("ahead", "a", "b")))), nested(many, ("ahead", "a", "b")))
        for many in (40, 41, 60):
            text = wish_text(nested(many))
            self.assertEqual(self.refused(BadText, read_wish, text).position, plain_position("wish", text))

    def test_behind_39_open_brackets(self):
        ahead = "not(" * 39
        for word, at in (("not", 0), ("and", 1), ("or", 0), ("o", 0), ("n", 0), ("an", 1), ("x", 0), ("", 0), ("a", 1),
                         ("i", 1), ("ahea", 4), ("h", 1), ("here", 4), ("here(", 5), ("here(a", 6), ("in(a", 4),
                         ("in(a)", 4), ("here(a ", 6), ("here((", 5)):
            self.assertEqual(self.refused(BadText, read_wish, ahead + word).position, 156 + at, word)
        for word in ("in(a b)", "ahead(a b)", "here(c)"):
            self.assertEqual(wish_text(read_wish(ahead + word + ")" * 39)), ahead + word + ")" * 39)
        ahead = "not(" * 38
        for word in ("not", "and", "or"):
            self.assertEqual(self.refused(BadText, read_wish, ahead + word).position, 152 + len(word))
        both = "or(" * 38 + "and(in(a b) here(c))" + " here(a))" * 38
        self.assertEqual(wish_text(read_wish(both)), both)


class WrongTexts(Case):

    def right(self, kind, text):
        """The text is read, or refused at its first wrong place."""
        place = plain_position(kind, text)
        read = READERS[kind]
        if place is None:
            self.assertEqual(WRITERS[kind](read(text)), text)
        else:
            found = self.refused(BadText, read, text).position
            self.assertEqual((type(found), found), (int, place), (kind, text))
        return place is None

    def test_texts_that_are_changed_at_each_place(self):
        texts = {
            "wood": ("a(b c(d)) e", "a", "-", "abcdefgh(abcdefgh(x))", "a b c", "a(b(c(d)))", "front(in and) cut"),
            "script": ("last a b; cut c", "put abcdefgh first", "-", "front a; back b; behind c d; wrap a n; ahead b a",
                       "swap swap swap; turn cut put; lift lift; pour in a"),
            "wish": ("and(in(a b) not(here(c)))", "here(abcdefgh)", "or(ahead(a b) and(here(in) here(or)))",
                     "not(not(or(in(ahead and) here(a))))"),
        }
        answers = set()
        for kind, told in texts.items():
            for text in told:
                self.assertTrue(self.right(kind, text), text)
                for other in changed_texts(text):
                    answers.add((kind, self.right(kind, other)))
        self.assertEqual(len(answers), 6)

    def test_each_kind_is_no_other_one(self):
        for text in ("a(b)", "a b", "cut a", "first a b", "here(a)", "not(here(a))", "-", "in", "cut", "in(a b)"):
            self.assertIn(True, [self.right(kind, text) for kind in READERS])

    def test_words_that_only_begin_as_right_ones(self):
        for kind, texts in {
            "script": ("firs a b", "firsts a b", "fist a b", "fr a", "fronta", "bac a", "beh a b", "ahea a b", "la a b",
                       "cu a", "cuta", "pot a b", "pu a b", "wra a b", "wry a b", "tur a b", "l a", "lif", "in a b"),
            "wish": ("i(a b)", "inn(a b)", "her(a)", "heres(a)", "ahea(a b)", "aheads(a b)", "an(a)", "nor(a)", "no",
                     "o", "xor(a b)", "here a", "cut(a)", "a"),
        }.items():
            for text in texts:
                self.assertFalse(self.right(kind, text), text)

    def test_by_hand(self):
        for read, text, place in (
                (read_wood, "a  b", 2), (read_wood, "a b ", 4), (read_wood, " a", 0), (read_wood, "a(b", 3),
                (read_wood, "a()", 2), (read_wood, "a)", 1), (read_wood, "a(b)c", 4), (read_wood, "abcdefghi", 8),
                (read_wood, "aB", 1), (read_wood, "a(b))", 4), (read_wood, "a(b c", 5), (read_wood, "a;", 1),
                (read_script, "cut a;cut b", 6), (read_script, "cut a; ", 7), (read_script, "cut a;", 6),
                (read_script, "cut a b", 5), (read_script, "last a", 6), (read_script, "last a ", 7),
                (read_script, "front abcdefghi", 14), (read_script, "cup a", 2), (read_script, "cut", 3),
                (read_script, "cut  a", 4), (read_script, "cut a ;", 5), (read_script, "Cut a", 0),
                (read_wish, "here(a", 6), (read_wish, "here(a))", 7), (read_wish, "in(a)", 4),
                (read_wish, "in(a  b)", 5),
                (read_wish, "and(here(a))", 11), (read_wish, "not(here(a) here(b))", 11), (read_wish, "not(a)", 5),
                (read_wish, "here()", 5), (read_wish, "", 0), (read_wish, "here (a)", 4), (read_wish, "in(a b", 6)):
            self.assertEqual(self.refused(BadText, read, text).position, place, text)

    def test_what_is_no_string(self):
        for read in READERS.values():
            for value in [value for value in ODD if not isinstance(value, str)] + [nested_list(100), W, V, BUSY, WISH]:
                self.assertIs(self.refused(BadText, read, value).position, None)

    def test_odd_strings(self):
        for kind in READERS:
            for text in [value for value in ODD if isinstance(value, str)]:
                if len(text) < 100:
                    self.right(kind, text)
        for read in (read_wood, read_wish):
            self.assertEqual(self.refused(BadText, read, "a" * 3000).position, 8 if read is read_wood else 1)
        self.assertEqual(self.refused(BadText, read_wood, "(" * 3000).position, 0)
        self.assertEqual(self.refused(BadText, read_wood, "a(" * 1500).position, 81)
        self.assertEqual(self.refused(BadText, read_wish, "not(" * 750).position, 156)

    def test_equal_calls_give_equal_results(self):
        for kind, text in (("wood", "a(b c(d)) e"), ("script", "cut a; cut b"), ("wish", "here(a)")):
            self.assertEqual(READERS[kind](text), READERS[kind](text))
