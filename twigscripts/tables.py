"""What a script does to all woods, as a table over skeletons."""

from twigscripts.bounds import MAX_OLD
from twigscripts.deeds import check_script, new_names, old_names
from twigscripts.errors import BadNames, Clash, Stopped, TooMany
from twigscripts.names import are_unlike_names, is_name
from twigscripts.steps import result_of
from twigscripts.woods import gaps_of, row_of, skeleton_of, unchecked_wood


def skeletons(names):
    """All woods with just these names, ascending by their rows."""
    if not are_unlike_names(names) or len(names) > MAX_OLD:
        raise BadNames()
    return tuple([unchecked_wood(row) for row in skeleton_rows(names)])


def skeleton_rows(names):
    """The rows of all woods with just these names, ascending."""
    rows = [()]
    for name in names:
        rows = [more for row in rows for more in rows_with(row, name)]
    return sorted(rows)


def rows_with(row, name):
    """All rows that are this one without this node."""
    found = []
    for begin in range(len(row) + 1):
        for end in _ends_of_stretches(row, begin):
            found.append(row[:begin] + (f"+{name}",) + row[begin:end] + (f"-{name}",) + row[end:])
    return found


def _ends_of_stretches(row, begin):
    """The places up to which whole blocks stand from this place on."""
    places = [begin]
    for place in range(begin, len(row)):
        if place == places[-1] and row[place][0] == "+":
            name = row[place][1:]
            places.append(row.index(f"-{name}") + 1)
    return places


def effect(script, *, names=()):
    """The table of a script."""
    check_script(script)
    if not isinstance(names, tuple) or not all([is_name(name) for name in names]):
        raise BadNames()
    made = new_names(script)
    for name in names:
        if name in made:
            raise Clash(name)
    return table_of(script, all_old_names(old_names(script), names))


def all_old_names(*parts):
    """The names of several tuples as one ascending tuple."""
    names = tuple(sorted(set([name for part in parts for name in part])))
    if len(names) > MAX_OLD:
        raise TooMany(MAX_OLD)
    return names


def table_of(deeds, names):
    """The table of any deeds over the skeletons for any few names."""
    return tuple([(row, result_of(gapped_row(row), deeds)) for row in skeleton_rows(names)])


def gapped_row(row):
    """A row with the numbers of its gaps between its ends."""
    items = [0]
    for place, end in enumerate(row):
        items.extend((end, place + 1))
    return tuple(items)


def by_table(table, wood):
    """The wood to which a table leads a wood."""
    # Each row of the table has all its names.
    names = tuple(sorted([end[1:] for end in table[0][0] if end[0] == "+"]))
    gaps = gaps_of(wood, names)
    skeleton = row_of(skeleton_of(wood, names))
    result = [found for row, found in table if row == skeleton][0]
    if result[0] == "stops":
        raise Stopped(result[1], result[2])
    return unchecked_wood(_filled_template(result[1], gaps))


def _filled_template(template, gaps):
    """The row of a template with these ends in the place of the numbers."""
    row = []
    for item in template:
        row.extend((item,) if isinstance(item, str) else gaps[item])
    return row
