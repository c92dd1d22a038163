"""Deeds and scripts of deeds."""

from twigscripts.bounds import MAX_DEEDS, MAX_NEW, MAX_OLD
from twigscripts.errors import BadScript, Stopped
from twigscripts.names import is_name
from twigscripts.steps import FORMS, result_of
from twigscripts.woods import row_of, unchecked_wood


def deed_error(value):
    """None for a deed, otherwise a word that says why it is none."""
    if not isinstance(value, tuple) or not _begins_well(value):
        return "deed"
    return None if all([is_name(item) for item in value[1:]]) else "name"


def _begins_well(value):
    """Whether a tuple has a word ahead, and as many names as it asks for."""
    # Only strings are looked up: a list or a dict cannot be a key.
    if not value or not isinstance(value[0], str) or value[0] not in FORMS:
        return False
    return len(value) == 1 + len(FORMS[value[0]])


def script_error(value):
    """None for a script, otherwise the first reason why it is none."""
    if not isinstance(value, tuple) or len(value) > MAX_DEEDS:
        return (None, "script")
    for index, deed in enumerate(value):
        word = deed_error(deed)
        if word is not None:
            return (index, word)
    if len(old_names(value)) > MAX_OLD:
        return (None, "old")
    return (None, "new") if len(new_names(value)) > MAX_NEW else None


def check_script(value):
    """Raises BadScript for what is no script."""
    error = script_error(value)
    if error is not None:
        raise BadScript(error)


def old_names(script):
    """The names that have to be there ahead of a script, ascending."""
    kinds = _first_kinds(script)
    return tuple(sorted([name for name in kinds if kinds[name] == "o"]))


def new_names(script):
    """The names that a script makes, ascending."""
    kinds = _first_kinds(script)
    return tuple(sorted([name for name in kinds if kinds[name] == "n"]))


def _first_kinds(script):
    """What each name stands for where it stands for the first time."""
    kinds = {}
    for deed in script:
        for kind, name in zip(FORMS[deed[0]], deed[1:]):
            kinds.setdefault(name, kind)
    return kinds


def do_deed(wood, deed):
    """The wood behind a deed."""
    return do_script(wood, (deed,))


def do_script(wood, script):
    """The wood behind a script."""
    result = result_of(row_of(wood), script)
    if result[0] == "stops":
        raise Stopped(result[1], result[2])
    return unchecked_wood(result[1])
