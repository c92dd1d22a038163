"""Woods and odd values that several tests use, and a way to ask for errors."""

import unittest

from twigscripts.errors import BadRow, NoName
from twigscripts.woods import wood_of

W = (("a", (("b", ()), ("c", ()))), ("d", ()))
V = (("d", (("c", ()),)), ("a", (("b", ()),)))
BUSY = (
    ("m", ()),
    ("k", (("b", (("z", ()), ("a", (("q", ()),)))), ("y", ()), ("c", (("x", ()),)))),
    ("abcdefgh", (("e", ()),)),
    ("d", ()),
)

# None of these is a name, and none is a tree.
ODD = (
    None, True, False, 0, 1, -1, 10 ** 39, "", "A", "aB", "Abc", "abcdefghi", "a1", "1", "a b", " a", "a ", "a\n",
    "-", "_a", "+a", "-a", "a" * 3000, [], ["a"], ["a", ()], ["a", []], {}, {"a": ()}, (), ("a",), ("a", (), ()),
    (("a", ()),), ("a", (), (), ()),
)


def name_at(number):
    """Unlike names for unlike numbers, two letters or more."""
    letters = ""
    for _ in range(2):
        letters = chr(ord("a") + number % 26) + letters
        number //= 26
    return "n" + letters


def names_up_to(many):
    return [name_at(number) for number in range(many)]


def wide(many):
    """So many roots."""
    return tuple((name, ()) for name in names_up_to(many))


def deep(many, inside=()):
    """So many nodes, each in the one ahead."""
    for name in reversed(names_up_to(many)):
        inside = ((name, inside),)
    return inside


def deep_row(many):
    names = names_up_to(many)
    return tuple("+" + name for name in names) + tuple("-" + name for name in reversed(names))


def nested_list(levels):
    value = []
    for _ in range(levels - 1):
        value = [value]
    return value


def splits(names):
    """All ways to part names into two tuples, both in the order of names."""
    if not names:
        return [((), ())]
    rest = splits(names[1:])
    return [((names[0],) + one, two) for one, two in rest] + [(one, (names[0],) + two) for one, two in rest]


def all_woods(names):
    """All woods with just these names."""
    if not names:
        return [()]
    found = []
    for first in names:
        others = tuple(name for name in names if name != first)
        for within, behind in splits(others):
            found += [((first, inside),) + more for inside in all_woods(within) for more in all_woods(behind)]
    return found


def paths(wood, ahead=()):
    """The place of each node, told by indexes from its root on."""
    found = {}
    for index, (name, inside) in enumerate(wood):
        found[name] = ahead + (index,)
        found.update(paths(inside, ahead + (index,)))
    return found


def plain_row(wood):
    row = ()
    for name, inside in wood:
        row += ("+" + name,) + plain_row(inside) + ("-" + name,)
    return row


def few_woods():
    """All woods of at most four names, and some greater ones."""
    found = [BUSY, wide(120), deep(40), deep(100), deep(150), (("left", deep(30)), ("right", W), ("end", ()))]
    for names in ((), ("a",), ("b", "a"), ("c", "a", "b"), ("a", "d", "b", "c")):
        found += all_woods(names)
    return found


class Case(unittest.TestCase):
    """A test that asks for errors with their fields."""

    def refused(self, error_class, call, *args, **named):
        """The error that the call raises, which is of just this class."""
        try:
            value = call(*args, **named)
        except (ValueError, LookupError) as error:
            self.assertIs(type(error), error_class, (call, args))
            return error
        return self.fail(f"{call!r} of {args!r} returned {value!r}")

    def refused_name(self, name, call, *args):
        """The call raises NoName with this very object."""
        self.assertIs(self.refused(NoName, call, *args).name, name)

    def refused_row(self, place, value):
        """wood_of raises BadRow with this place."""
        found = self.refused(BadRow, wood_of, value).place
        self.assertEqual((type(found), found), (type(place), place), value)
