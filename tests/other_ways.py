"""Second ways to do what the program does, written for the tests alone.

Deeds are done on lists of children here, never on rows.
"""

from tests.samples import all_woods, paths
from twigscripts.woods import filled

MOVES = ("first", "last", "ahead", "behind")
TWO_OLD = MOVES + ("swap", "turn", "pour")
ONE_OLD = ("front", "back", "lift", "cut")
MAKERS = ("wrap", "put")
WORDS = TWO_OLD + ONE_OLD + MAKERS


def all_deeds(names):
    """Each deed with these names."""
    found = [(word, a) for word in ONE_OLD for a in names]
    return found + [(word, a, b) for word in TWO_OLD + MAKERS for a in names for b in names]


def plain_old_new(deed):
    """The names of a deed that have to be there, and those that must not."""
    if deed[0] == "wrap":
        return deed[1:2], deed[2:]
    if deed[0] == "put":
        return deed[2:], deed[1:2]
    return deed[1:], ()


class Lists:
    """A wood as lists of the names of children, that of the roots under None."""

    def __init__(self, wood):
        self.below = {None: []}
        self.above = {}
        todo = [(None, wood)]
        while todo:
            parent, trees = todo.pop()
            self.below[parent] = [name for name, _ in trees]
            for name, inside in trees:
                self.above[name] = parent
                todo.append((name, inside))

    def is_around(self, a, b):
        """Whether b is a or lies in a."""
        while b is not None and b != a:
            b = self.above[b]
        return b == a

    def place(self, name):
        """The list a node stands in, and its index there."""
        siblings = self.below[self.above[name]]
        return siblings, siblings.index(name)

    def wood(self, parent=None):
        return tuple((name, self.wood(name)) for name in self.below[parent])


def plain_stop(lists, deed):
    old, new = plain_old_new(deed)
    if [name for name in old if name not in lists.above]:
        return "gone"
    if [name for name in new if name in lists.above]:
        return "taken"
    if deed[0] in MOVES + ("pour",) and lists.is_around(deed[1], deed[2]):
        return "inside"
    if deed[0] == "swap" and (lists.is_around(deed[1], deed[2]) or lists.is_around(deed[2], deed[1])):
        return "inside"
    return None


def move(lists, deed):
    siblings, index = lists.place(deed[1])
    del siblings[index]
    if deed[0] in ("front", "back"):
        goal, at = lists.below[None], {"front": 0, "back": len(lists.below[None])}[deed[0]]
    elif deed[0] in ("first", "last"):
        goal = lists.below[deed[2]]
        at = {"first": 0, "last": len(goal)}[deed[0]]
    else:
        goal, at = lists.place(deed[2])
        at += {"ahead": 0, "behind": 1}[deed[0]]
    goal.insert(at, deed[1])


def change(lists, deed):
    if deed[0] == "put":
        lists.below[deed[2]].append(deed[1])
        lists.below[deed[1]] = []
        return
    siblings, index = lists.place(deed[1])
    if deed[0] == "swap":
        others, at = lists.place(deed[2])
        siblings[index], others[at] = deed[2], deed[1]
    elif deed[0] == "lift":
        siblings[index:index + 1] = lists.below[deed[1]]
    elif deed[0] == "cut":
        del siblings[index]
    elif deed[0] == "pour":
        lists.below[deed[2]].extend(lists.below[deed[1]])
        lists.below[deed[1]] = []
    else:
        siblings[index] = deed[2]
        lists.below[deed[2]] = [deed[1]]


def renamed(wood, names):
    return tuple((names.get(name, name), renamed(inside, names)) for name, inside in wood)


def plain_deed(wood, deed):
    """The wood behind a deed, or the word of its stop."""
    lists = Lists(wood)
    word = plain_stop(lists, deed)
    if word is not None:
        return word
    if deed[0] == "turn":
        return renamed(wood, {deed[1]: deed[2], deed[2]: deed[1]})
    (move if deed[0] in MOVES + ("front", "back") else change)(lists, deed)
    return lists.wood()


def plain_script(wood, script):
    """The wood behind a script, or the pair (index, word) of its stop."""
    for index, deed in enumerate(script):
        found = plain_deed(wood, deed)
        if isinstance(found, str):
            return (index, found)
        wood = found
    return wood


def stopped(result):
    """Whether what plain_script tells is a stop."""
    return len(result) == 2 and isinstance(result[0], int)


def plain_so(wish, wood):
    """Whether a wish is so, told by the places of the nodes."""
    found = paths(wood)
    if wish[0] == "and":
        return plain_so(wish[1], wood) and plain_so(wish[2], wood)
    if wish[0] == "or":
        return plain_so(wish[1], wood) or plain_so(wish[2], wood)
    if wish[0] == "not":
        return not plain_so(wish[1], wood)
    if [name for name in wish[1:] if name not in found]:
        return False
    places = [found[name] for name in wish[1:]]
    if wish[0] == "here":
        return True
    a, b = places
    if wish[0] == "in":
        return len(a) > len(b) and a[:len(b)] == b
    return a < b and b[:len(a)] != a


def plain_said(saying, wood):
    """Whether a saying is so, told by lists of children."""
    lists = Lists(wood)
    if [name for name in saying[1:] if name not in lists.above]:
        return False
    word, a = saying[:2]
    siblings, index = lists.place(a)
    if word == "child":
        return lists.above[a] == saying[2]
    if word == "next":
        return siblings[index + 1:index + 2] == [saying[2]]
    told = {"root": lists.above[a] is None, "first": index == 0, "last": index == len(siblings) - 1}
    return told[word] if word != "bare" else not lists.below[a]


def fitting_woods(script, extra, names=()):
    """All woods that fit a script, with its old names and those passed that it does not make, and so many others."""
    told = {name for deed in script for name in deed[1:]}
    new = set(plain_new_names(script))
    others = [name for name in ("x", "y", "z", "xx", "yy") if name not in told | set(names)]
    return all_woods(sorted((told | set(names)) - new) + others[:extra])


def full_woods(script):
    """Each wood of the old names of a script alone, with a leaf in each gap: they show whatever goes elsewhere."""
    woods = []
    for wood in fitting_woods(script, 0):
        gaps = range(2 * len(paths(wood)) + 1)
        leaves = [(f"+leaf{letter}", f"-leaf{letter}") for letter in "abcdefghi"]
        woods.append(filled(wood, tuple(leaves[gap] for gap in gaps)))
    return woods


def plain_new_names(script):
    """The names that stand in a script for the first time where a deed makes a node."""
    seen, new = set(), []
    for deed in script:
        for place, name in enumerate(deed[1:]):
            if name not in seen and (deed[0], place) in (("wrap", 1), ("put", 0)):
                new.append(name)
            seen.add(name)
    return new


def plain_alike(one, other, woods):
    """Whether two rows of deeds do alike on each of these woods."""
    for wood in woods:
        first, second = plain_script(wood, one), plain_script(wood, other)
        if first != second and not (stopped(first) and stopped(second)):
            return False
    return True


def wish_names(wish):
    """The names of a wish, those of the wishes in it too."""
    if wish[0] in ("and", "or", "not"):
        return set().union(*[wish_names(part) for part in wish[1:]])
    return set(wish[1:])
