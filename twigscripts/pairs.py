"""Whether two scripts do alike on all woods, and what a script loses.

Woods that part two scripts, or that become one wood, have as few nodes
as there are if they are a skeleton with a leaf in at most two of its
gaps: a node with something in it shows no more than a leaf at each of
its ends does.
"""

from twigscripts.deeds import new_names, old_names
from twigscripts.errors import Clash
from twigscripts.names import free_names
from twigscripts.tables import all_old_names, table_of
from twigscripts.woods import filled, unchecked_wood


def alike(one, other):
    """None, or a wood on which two scripts do not do alike."""
    names = _names_of_both(one, other)
    return parting_wood(one, other, names, new_names(one) + new_names(other))


def within(one, other):
    """None, or a wood on which one does, but other does not do the same."""
    names = _names_of_both(one, other)
    parted = []
    for (row, first), (_, second) in zip(table_of(one, names), table_of(other, names)):
        if first[0] == "does":
            parted.append((row, _parting_gaps(first, second)))
    return _least_wood(parted, new_names(one) + new_names(other))


def commutes(one, other):
    """None, or a wood on which the order of two scripts matters."""
    names = _names_of_both(one, other)
    return parting_wood(one + other, other + one, names, new_names(one) + new_names(other))


def _names_of_both(one, other):
    """The old names of two scripts, if they go together."""
    names = sorted(old_names(one) + old_names(other))
    made = new_names(one) + new_names(other)
    for name in names:
        # What the one script makes itself is never an old name of it.
        if name in made:
            raise Clash(name)
    return all_old_names(names)


def parting_wood(one, other, names, others):
    """None, or a wood with these names and none of others on which deeds do unlike."""
    parted = []
    for (row, first), (_, second) in zip(table_of(one, names), table_of(other, names)):
        parted.append((row, _parting_gaps(first, second)))
    return _least_wood(parted, others)


def _parting_gaps(one, other):
    """The gaps in which leaves show two results to be unlike, None if they are alike."""
    if one[0] == "stops" or other[0] == "stops":
        return None if one[0] == other[0] else ()
    first, second = one[1], other[1]
    if first == second:
        return None
    if _ends_in(first) != _ends_in(second):
        return ()
    here, there = _many_ahead(first), _many_ahead(second)
    moved = [gap for gap in list(here) + list(there) if here.get(gap) != there.get(gap)]
    if moved:
        return (max(moved),)
    # All stands between the same ends: only gaps side by side can be in another order.
    place = [item == other_item for item, other_item in zip(first, second)].index(False)
    return (first[place], second[place])


def _ends_in(template):
    """The row to which a template leads the bare skeleton."""
    return tuple([item for item in template if isinstance(item, str)])


def _many_ahead(template):
    """How many ends stand ahead of each gap of a template."""
    found = {}
    many = 0
    for item in template:
        if isinstance(item, str):
            many = many + 1
        else:
            found[item] = many
    return found


def _least_wood(parted, others):
    """The first skeleton that asks for the fewest leaves, with these leaves."""
    parted = [(row, gaps) for row, gaps in parted if gaps is not None]
    if not parted:
        return None
    row, gaps = min(parted, key=lambda pair: len(pair[1]))
    return _with_leaves(row, gaps, others)


def _with_leaves(row, gaps, others):
    """The wood of a row with a leaf in each of these gaps; no leaf has one of the other names."""
    leaves = free_names([end[1:] for end in row] + list(others))
    parts = [()] * (len(row) + 1)
    for gap, name in zip(gaps, leaves):
        parts[gap] = (f"+{name}", f"-{name}")
    return filled(unchecked_wood(row), tuple(parts))


def loses(script):
    """None, or two woods that a script makes one."""
    does = [(row, result[1]) for row, result in table_of(script, old_names(script)) if result[0] == "does"]
    pair = _rows_made_one(does)
    if pair is not None:
        return (unchecked_wood(pair[0]), unchecked_wood(pair[1]))
    made = new_names(script)
    for row, template in does:
        for gap in range(len(row) + 1):
            if gap not in template:
                return (unchecked_wood(row), _with_leaves(row, (gap,), made))
    for row, template in does:
        for gap, other in zip(template, template[1:]):
            if isinstance(gap, int) and isinstance(other, int):
                return (_with_leaves(row, (gap,), made), _with_leaves(row, (other,), made))
    return None


def _rows_made_one(does):
    """Two skeletons that become one wood, None if there are none."""
    rows = {}
    for row, template in does:
        ends = _ends_in(template)
        if ends in rows:
            return (rows[ends], row)
        rows[ends] = row
    return None


def stops_on(script):
    """The rows of the skeletons on which a script stops, where, and why."""
    table = table_of(script, old_names(script))
    return tuple([(row, result[1], result[2]) for row, result in table if result[0] == "stops"])


def fate(script):
    """Whether a script always does, always stops, or does the one or the other."""
    words = [result[0] for _, result in table_of(script, old_names(script))]
    if "stops" not in words:
        return "does"
    return "open" if "does" in words else "stops"
