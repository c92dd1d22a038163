"""Sayings, which hang on nodes that no script names, too.

Whether a saying is so is told by what stands next to an end, or by the
nodes around a node. So one node beside those that are named is enough
to make it so, or not so, wherever any others could.
"""

from twigscripts.deeds import check_script, new_names, old_names
from twigscripts.errors import BadWish
from twigscripts.names import free_names, is_name
from twigscripts.steps import result_of
from twigscripts.tables import all_old_names, rows_with, skeleton_rows
from twigscripts.woods import row_of, unchecked_wood

# How many names stand behind each word.
_FORMS = {"child": 2, "root": 1, "next": 2, "first": 1, "last": 1, "bare": 1}


def holds(saying, wood):
    """Whether a saying is so of a wood."""
    _check_saying(saying)
    return _is_said_of(row_of(wood), saying)


def _check_saying(value):
    """Raises BadWish for what is no saying."""
    if not isinstance(value, tuple) or not _begins_well(value):
        raise BadWish(((), "wish"))
    if not all([is_name(name) for name in value[1:]]):
        raise BadWish(((), "name"))


def _begins_well(value):
    """Whether a tuple has a word ahead, and as many names as it asks for."""
    # Only strings are looked up: a list or a dict cannot be a key.
    if not value or not isinstance(value[0], str) or value[0] not in _FORMS:
        return False
    return len(value) == 1 + _FORMS[value[0]]


def _is_said_of(row, saying):
    """Whether a saying is so of the wood of a row."""
    if any([f"+{name}" not in row for name in saying[1:]]):
        return False
    word = saying[0]
    begin, end = row.index(f"+{saying[1]}"), row.index(f"-{saying[1]}")
    if word == "first":
        return begin == 0 or row[begin - 1][0] == "+"
    if word == "last":
        return end == len(row) - 1 or row[end + 1][0] == "-"
    if word == "bare":
        return begin + 1 == end
    if word == "next":
        return row[end + 1:end + 2] == (f"+{saying[2]}",)
    # A root has no node around it, and "root" no second name.
    return _around(row[:begin])[-1:] == list(saying[2:])


def _around(row):
    """The names of the nodes that are open behind the first ends of a row, the outermost first."""
    names = []
    for end in row:
        if end[0] == "+":
            names.append(end[1:])
        else:
            names.pop()
    return names


def told(script, saying):
    """What a script tells of a saying: void, sure, never, or open with two woods."""
    check_script(script)
    _check_saying(saying)
    made = new_names(script)
    names = all_old_names(old_names(script), [name for name in saying[1:] if name not in made])
    found = {}
    for row in _rows_that_tell(script, names, free_names(names + made)[0]):
        result = result_of(row, script)
        found.setdefault(_is_said_of(result[1], saying), row)
    if not found:
        return ("void",)
    if len(found) == 1:
        return ("sure",) if True in found else ("never",)
    return ("open", unchecked_wood(found[True]), unchecked_wood(found[False]))


def _rows_that_tell(script, names, extra):
    """The rows with these names, alone and with one more, on which a script does."""
    rows = [row for row in skeleton_rows(names) if result_of(row, script)[0] == "does"]
    return rows + [more for row in rows for more in rows_with(row, extra)]
