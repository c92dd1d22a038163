"""Woods and their rows, who lies where in a wood, skeletons and gaps.

Nothing here calls itself: woods that are results may be deeper than
calls should be.
"""

from twigscripts.bounds import MAX_DEEP, MAX_NAMES
from twigscripts.errors import BadGaps, BadNames, BadRow, BadWood, NoName
from twigscripts.names import are_unlike_names, is_name

# So many nodes may be open at once in a row.
_MOST_AROUND = 100


def wood_error(value):
    """None for a wood within the limits, otherwise a word that says why not."""
    if not isinstance(value, tuple):
        return "wood"
    seen = {}
    deepest = 0
    todo = [(tree, 1) for tree in value[::-1]]
    while todo:
        tree, deep = todo.pop()
        word = _tree_error(tree, seen)
        if word is not None:
            return word
        name, inside = tree
        seen[name] = True
        deepest = max(deepest, deep)
        todo.extend([(item, deep + 1) for item in inside[::-1]])
    if len(seen) > MAX_NAMES:
        return "many"
    return "deep" if deepest > MAX_DEEP else None


def _tree_error(tree, seen):
    """The word for a tree itself, not for the trees that lie in it."""
    if not isinstance(tree, tuple) or len(tree) != 2:
        return "tree"
    name, inside = tree
    if not is_name(name):
        return "name"
    if name in seen:
        return "again"
    return None if isinstance(inside, tuple) else "wood"


def check_wood(value):
    """Raises BadWood for what is no wood within the limits."""
    error = wood_error(value)
    if error is not None:
        raise BadWood(error)


def row_of(wood):
    """The tuple of the ends of a wood, in order."""
    row = []
    todo = list(wood[::-1])
    while todo:
        item = todo.pop()
        if isinstance(item, str):
            row.append(item)
        else:
            name, inside = item
            row.append(f"+{name}")
            todo.append(f"-{name}")
            todo.extend(inside[::-1])
    return tuple(row)


def wood_of(value):
    """The wood whose row value is."""
    if not isinstance(value, tuple):
        raise BadRow(None)
    place = _bad_place(value)
    if place is not None:
        raise BadRow(place)
    return unchecked_wood(value)


def _bad_place(row):
    """The place at which a tuple cannot go on as a row, None if it is a row."""
    seen = {}
    around = []
    for place, end in enumerate(row):
        if not _is_end(end):
            return place
        name = end[1:]
        if end[0] == "+":
            if name in seen or len(around) == _MOST_AROUND:
                return place
            seen[name] = True
            around.append(name)
        else:
            if around[-1:] != [name]:
                return place
            around.pop()
    return len(row) if around else None


def _is_end(value):
    return isinstance(value, str) and value[:1] in ("+", "-") and is_name(value[1:])


def unchecked_wood(row):
    """The wood of what is known to be a row, however deep it is."""
    done = []
    begins = []
    for end in row:
        if end[0] == "+":
            begins.append(len(done))
        else:
            begin = begins.pop()
            done[begin:] = [(end[1:], tuple(done[begin:]))]
    return tuple(done)


def parents_of(wood):
    """The parent of each node, None for a root, by first ends in order."""
    parents = {}
    around = [None]
    for end in row_of(wood):
        if end[0] == "+":
            parents[end[1:]] = around[-1]
            around.append(end[1:])
        else:
            around.pop()
    return parents


def names_of(wood):
    """The names of a wood in the order of their first ends."""
    return tuple([end[1:] for end in row_of(wood) if end[0] == "+"])


def parent_of(wood, name):
    """The name of the node whose child it is, None for a root."""
    parents = parents_of(wood)
    _check_there(parents, (name,))
    return parents[name]


def children_of(wood, name):
    """The names of the children of a node in order, of the roots for None."""
    parents = parents_of(wood)
    if name is not None:
        _check_there(parents, (name,))
    return tuple([child for child in parents if parents[child] == name])


def is_in(wood, a, b):
    """Whether the node a is in the node b."""
    places = _places_of(wood, (a, b))
    return places[f"+{b}"] < places[f"+{a}"] < places[f"-{b}"]


def is_ahead(wood, a, b):
    """Whether the node a is ahead of the node b."""
    places = _places_of(wood, (a, b))
    return places[f"-{a}"] < places[f"+{b}"]


def _places_of(wood, names):
    """The place of each end in the row, for names that have to be there."""
    _check_there(parents_of(wood), names)
    return {end: place for place, end in enumerate(row_of(wood))}


def _check_there(parents, names):
    for name in names:
        # Only strings are looked up: a list or a dict cannot be a key.
        if not isinstance(name, str) or name not in parents:
            raise NoName(name)


def skeleton_of(wood, names):
    """The wood of these nodes alone."""
    _check_names(wood, names)
    return unchecked_wood([end for end in row_of(wood) if end[1:] in names])


def gaps_of(wood, names):
    """The ends of all other nodes, by the gaps between those of these."""
    _check_names(wood, names)
    gaps = []
    gap = []
    for end in row_of(wood):
        if end[1:] in names:
            gaps.append(tuple(gap))
            gap = []
        else:
            gap.append(end)
    gaps.append(tuple(gap))
    return tuple(gaps)


def _check_names(wood, names):
    if not are_unlike_names(names):
        raise BadNames()
    _check_there(parents_of(wood), names)


def filled(wood, value):
    """The wood with the ends that value has for the gaps of all its nodes."""
    row = row_of(wood)
    if not _are_tuples(value, len(row) + 1):
        raise BadGaps()
    ends = list(value[0])
    for end, gap in zip(row, value[1:]):
        ends.append(end)
        ends.extend(gap)
    try:
        return wood_of(tuple(ends))
    except BadRow:
        raise BadGaps() from None


def _are_tuples(value, many):
    """Whether value is a tuple of so many tuples."""
    if not isinstance(value, tuple) or len(value) != many:
        return False
    return all([isinstance(item, tuple) for item in value])
