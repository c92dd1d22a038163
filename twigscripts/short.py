"""Scripts with as few deeds as there are."""

from twigscripts.bounds import MAX_FEW, MAX_SHORT
from twigscripts.deeds import check_script, new_names, old_names
from twigscripts.errors import BadNames, TooMany
from twigscripts.names import is_name
from twigscripts.pairs import parting_wood
from twigscripts.steps import FORMS, possible_lasts, result_of
from twigscripts.tables import gapped_row, skeleton_rows
from twigscripts.wishes import check_wish, is_so_of_row, names_in_wish


def lean(script):
    """The script without the deeds that can be left out, looked at from the first one on."""
    check_script(script)
    names, made = old_names(script), new_names(script)
    kept = script
    index = 0
    while index < len(kept):
        rest = kept[:index] + kept[index + 1:]
        if parting_wood(rest, kept, names, made) is None:
            kept = rest
        else:
            index = index + 1
    return kept


def shortest(script):
    """A script with as few deeds as there are that does alike, None if it has to be longer than MAX_SHORT."""
    check_script(script)
    old = old_names(script)
    names = old + new_names(script)
    _check_few(names)
    goals = [(row, _row_behind(row, script)) for row in [gapped_row(bare) for bare in skeleton_rows(old)]]
    deeds = _deeds_with(names)
    done = [pair for pair in goals if pair[1] is not None]
    if not done:
        # One deed that stops on all woods does alike: there always is one.
        return _first_that_leads(goals, [(deed,) for deed in deeds])
    # Few scripts lead from one row to its goal: the other pairs are looked at for these alone.
    row, goal = done[0]
    lasts = possible_lasts(goal, deeds)
    for many in range(MAX_SHORT + 1):
        found = _first_that_leads(goals, _scripts_between(row, goal, many, deeds, lasts))
        if found is not None:
            return found
    return None


def _scripts_between(row, goal, many, deeds, lasts):
    """All scripts of so many deeds that lead from a row to a goal, in order; lasts are the possible last deeds."""
    if many == 0:
        return [()] if row == goal else []
    if many == 1:
        return [(deed,) for deed in lasts if lasts[deed] in (None, row) and _row_behind(row, (deed,)) == goal]
    found = []
    rests = {}
    for deed in deeds:
        behind = _row_behind(row, (deed,))
        if behind is not None:
            if behind not in rests:
                rests[behind] = _scripts_between(behind, goal, many - 1, deeds, lasts)
            found.extend([(deed,) + rest for rest in rests[behind]])
    return found


def _first_that_leads(goals, scripts):
    """The first one of some scripts that leads from row to goal in each pair, None if there is none."""
    for deeds in scripts:
        if _leads_to(goals, deeds):
            return deeds
    return None


def _check_few(names):
    if len(names) > MAX_FEW:
        raise TooMany(MAX_FEW)


def _row_behind(row, deeds):
    """The row behind deeds, None where they stop."""
    result = result_of(row, deeds)
    return result[1] if result[0] == "does" else None


def _leads_to(goals, deeds):
    """Whether deeds lead from the first row of each pair to the second one, and stop where this is None."""
    for row, goal in goals:
        if _row_behind(row, deeds) != goal:
            return False
    return True


def _short_scripts(names):
    """All scripts of at most MAX_SHORT deeds with these names, those with fewer deeds first."""
    deeds = _deeds_with(names)
    found = longest = [()]
    for _ in range(MAX_SHORT):
        longest = [script + (deed,) for script in longest for deed in deeds]
        found = found + longest
    return found


def _deeds_with(names):
    """All deeds with these names."""
    deeds = [(word, a) for word in FORMS if len(FORMS[word]) == 1 for a in names]
    return deeds + [(word, a, b) for word in FORMS if len(FORMS[word]) == 2 for a in names for b in names]


def plan(ahead, behind, *, names=()):
    """A script with as few deeds as there are that makes behind so where ahead is, None if it has to be longer."""
    check_wish(ahead)
    check_wish(behind)
    if not isinstance(names, tuple) or not all([is_name(name) for name in names]):
        raise BadNames()
    known = sorted(set(names_in_wish(ahead) + names_in_wish(behind) + list(names)))
    _check_few(known)
    rows = [row for row in skeleton_rows(known) if is_so_of_row(ahead, row)]
    for deeds in _short_scripts(known):
        if not new_names(deeds) and _makes_so(rows, deeds, behind):
            return deeds
    return None


def _makes_so(rows, deeds, wish):
    """Whether deeds do on each of these rows, and a wish is so behind them."""
    for row in rows:
        found = _row_behind(row, deeds)
        if found is None or not is_so_of_row(wish, found):
            return False
    return True
