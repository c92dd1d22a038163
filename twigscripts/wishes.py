"""Wishes about who lies in whom, and whether scripts keep to them."""

from twigscripts.bounds import MAX_DEPTH, MAX_WISHES
from twigscripts.deeds import check_script, new_names, old_names
from twigscripts.errors import BadWish
from twigscripts.names import is_name
from twigscripts.tables import all_old_names, table_of
from twigscripts.woods import row_of, unchecked_wood

# What each item behind the word is: n a name, w a wish.
WISH_FORMS = {"in": "nn", "ahead": "nn", "here": "n", "and": "ww", "or": "ww", "not": "w"}


def wish_error(value):
    """None for a wish, otherwise the first reason why it is none."""
    many = deepest = 0
    todo = [((), value)]
    while todo:
        place, wish = todo.pop()
        word = _own_error(wish)
        if word is not None:
            return (place, word)
        many = many + 1
        deepest = max(deepest, len(place) + 1)
        inner = [(place + (index,), part) for index, part in enumerate(_inner_wishes(wish))]
        todo.extend(inner[::-1])
    if deepest > MAX_DEPTH:
        return ((), "deep")
    return ((), "many") if many > MAX_WISHES else None


def _own_error(value):
    """The word for a wish itself, not for the wishes in it."""
    if not isinstance(value, tuple) or not value:
        return "wish"
    # Only strings are looked up: a list or a dict cannot be a key.
    if not isinstance(value[0], str) or value[0] not in WISH_FORMS:
        return "wish"
    if len(value) != 1 + len(WISH_FORMS[value[0]]):
        return "wish"
    return None if all([is_name(name) for name in _own_names(value)]) else "name"


def _inner_wishes(wish):
    return wish[1:] if "w" in WISH_FORMS[wish[0]] else ()


def _own_names(wish):
    return wish[1:] if "n" in WISH_FORMS[wish[0]] else ()


def check_wish(value):
    """Raises BadWish for what is no wish."""
    error = wish_error(value)
    if error is not None:
        raise BadWish(error)


def names_in_wish(wish):
    """The names of a wish and of those in it, some perhaps more than once."""
    names = list(_own_names(wish))
    for part in _inner_wishes(wish):
        names.extend(names_in_wish(part))
    return names


def is_so(wish, wood):
    """Whether a wish is so of a wood."""
    check_wish(wish)
    return is_so_of_row(wish, row_of(wood))


def is_so_of_row(wish, row):
    """Whether a wish is so of the wood of a row, in which numbers of gaps may stand."""
    return _holds(wish, {item: place for place, item in enumerate(row)})


def _holds(wish, places):
    word = wish[0]
    if word == "and":
        return _holds(wish[1], places) and _holds(wish[2], places)
    if word == "or":
        return _holds(wish[1], places) or _holds(wish[2], places)
    if word == "not":
        return not _holds(wish[1], places)
    if any([f"+{name}" not in places for name in wish[1:]]):
        return False
    if word == "in":
        return places[f"+{wish[2]}"] < places[f"+{wish[1]}"] < places[f"-{wish[2]}"]
    return word == "here" or places[f"-{wish[1]}"] < places[f"+{wish[2]}"]


def sure(ahead, script, behind):
    """None, or a wood on which ahead is so, but behind not behind the script."""
    check_wish(ahead)
    check_script(script)
    check_wish(behind)
    return _breach(ahead, script, behind)


def keeps(script, wish):
    """None, or a wood on which a wish is so, but not behind the script."""
    check_script(script)
    check_wish(wish)
    return _breach(wish, script, wish)


def _breach(ahead, script, behind):
    for row, result in _table_for(script, names_in_wish(ahead) + names_in_wish(behind)):
        if result[0] == "does" and is_so_of_row(ahead, row) and not is_so_of_row(behind, result[1]):
            return unchecked_wood(row)
    return None


def _table_for(script, names):
    """The table of a script that tells what wishes with these names ask for, too."""
    made = new_names(script)
    return table_of(script, all_old_names(old_names(script), [name for name in names if name not in made]))


def where(script, wish):
    """The rows of the skeletons on which a script does, and a wish is so behind it."""
    check_script(script)
    check_wish(wish)
    table = _table_for(script, names_in_wish(wish))
    return tuple([row for row, result in table if result[0] == "does" and is_so_of_row(wish, result[1])])
