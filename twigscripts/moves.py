"""The fewest moves from one wood to another, and labels that show that no fewer do.

A node that is never moved keeps its parent, and two such nodes with one
parent keep their order. So at most one of the nodes with one label is
never moved, and each other one has to be moved once at least.
"""

from twigscripts.deeds import deed_error
from twigscripts.errors import Unlike
from twigscripts.steps import result_of
from twigscripts.woods import names_of, parents_of, row_of

_MOVES = ("first", "last", "ahead", "behind", "front", "back")


def least_moves(one, other):
    """The least number of moves that lead from one wood to another."""
    return len(fewest(one, other))


def fewest(one, other):
    """As few moves as there are that lead from one wood to another."""
    _check_names(one, other)
    unmoved = _unmoved(one, other)
    found = []
    latest = {}
    # Nodes go to their places in the order of the other wood: so all that a node
    # lies in there is in its place already, and nothing of it lies in that node.
    for name, parent in list(parents_of(other).items()):
        if name not in unmoved:
            found.append(_move_to(name, parent, latest.get(parent)))
        latest[parent] = name
    return tuple(found)


def _check_names(one, other):
    if sorted(names_of(one)) != sorted(names_of(other)):
        raise Unlike()


def _move_to(name, parent, sibling):
    """The move of a node right behind a sibling, ahead of all siblings if there is none."""
    if sibling is not None:
        return ("behind", name, sibling)
    return ("front", name) if parent is None else ("first", name, parent)


def _unmoved(one, other):
    """As many names that stay as there are, no two siblings of them the other way round."""
    longest = {}
    parents = parents_of(other)
    for name, chain in list(_chains(one, other).items()):
        if len(chain) > len(longest.get(parents[name], ())):
            longest[parents[name]] = chain
    return [name for parent in longest for name in longest[parent]]


def _chains(one, other):
    """For each name that stays a longest row of siblings up to it that have one order in both woods."""
    parents = parents_of(one)
    places = _places_in(other)
    chains = {}
    for name in _staying(one, other):
        best = ()
        for peer in chains:
            is_before = parents[peer] == parents[name] and places[peer] < places[name]
            if is_before and len(chains[peer]) > len(best):
                best = chains[peer]
        chains[name] = best + (name,)
    return chains


def _staying(one, other):
    """The names that stay, in the order of one."""
    parents, goals = parents_of(one), parents_of(other)
    return [name for name in parents if parents[name] == goals[name]]


def _places_in(wood):
    return {name: place for place, name in enumerate(names_of(wood))}


def labels(one, other):
    """Right labels, as few as there are."""
    _check_names(one, other)
    chains = _chains(one, other)
    # Of two siblings in the same order in both woods the latter has the longer chain.
    return tuple([(name, len(chains[name]) - 1) for name in sorted(chains)])


def lets_labels(one, other, value):
    """Whether value is a tuple of right labels."""
    _check_names(one, other)
    return _many_labels(one, other, value) is not None


def _many_labels(one, other, value):
    """The number of labels if value is a tuple of right ones, None otherwise."""
    staying = _staying(one, other)
    if not isinstance(value, tuple) or not all([_is_labelled(item) for item in value]):
        return None
    if [name for name, _ in value] != sorted(staying):
        return None
    told = {name: label for name, label in value}
    parents = parents_of(one)
    places = _places_in(other)
    latest = {}
    for name in staying:
        key = (parents[name], told[name])
        if key in latest and latest[key] < places[name]:
            return None
        latest[key] = places[name]
    return len(latest)


def _is_labelled(value):
    """Whether value is a pair with an integer from 0 on behind."""
    if not isinstance(value, tuple) or len(value) != 2:
        return False
    return isinstance(value[1], int) and not isinstance(value[1], bool) and value[1] >= 0


def lets_fewest(one, other, moves, value):
    """Whether moves lead from one wood to another, and value has labels that show that no fewer do."""
    _check_names(one, other)
    if not isinstance(moves, tuple) or not all([_is_move(item) for item in moves]):
        return False
    if result_of(row_of(one), moves) != ("does", row_of(other)):
        return False
    return _many_labels(one, other, value) == len(names_of(one)) - len(moves)


def _is_move(value):
    return deed_error(value) is None and value[0] in _MOVES
