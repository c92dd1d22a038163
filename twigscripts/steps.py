"""What deeds do to a row.

A row here is a tuple of ends in which numbers may stand, too. A number
stands for all that is between two ends that are told: no deed looks at
it, so it goes where these ends would go.
"""

# What each item behind the word stands for: o a node that has to be there, n a new name.
FORMS = {
    "first": "oo",
    "last": "oo",
    "ahead": "oo",
    "behind": "oo",
    "front": "o",
    "back": "o",
    "swap": "oo",
    "turn": "oo",
    "lift": "o",
    "cut": "o",
    "pour": "oo",
    "wrap": "on",
    "put": "no",
}


def result_of(row, deeds):
    """("does", the row behind the deeds), or ("stops", index, word)."""
    for index, deed in enumerate(deeds):
        word = stop_word(row, deed)
        if word is not None:
            return ("stops", index, word)
        row = row_behind(row, deed)
    return ("does", row)


def stop_word(row, deed):
    """The word with which a deed stops on a row, None if it does."""
    told = list(zip(FORMS[deed[0]], deed[1:]))
    if any([f"+{name}" not in row for kind, name in told if kind == "o"]):
        return "gone"
    if any([f"+{name}" in row for kind, name in told if kind == "n"]):
        return "taken"
    return "inside" if _is_barred(row, deed) else None


def _is_barred(row, deed):
    """Whether one node would have to go where it lies itself."""
    word = deed[0]
    if word == "swap":
        return _is_around(row, deed[1], deed[2]) or _is_around(row, deed[2], deed[1])
    return word in ("first", "last", "ahead", "behind", "pour") and _is_around(row, deed[1], deed[2])


def _is_around(row, a, b):
    """Whether b is a or is in a."""
    return row.index(f"+{a}") <= row.index(f"+{b}") < row.index(f"-{a}")


def row_behind(row, deed):
    """The row behind a deed that does not stop on it."""
    word = deed[0]
    if word == "swap":
        return _swapped(row, deed[1], deed[2])
    if word == "turn":
        return _turned(row, deed[1], deed[2])
    if word == "lift":
        return tuple([item for item in row if item not in (f"+{deed[1]}", f"-{deed[1]}")])
    if word == "put":
        goal = row.index(f"-{deed[2]}")
        return row[:goal] + (f"+{deed[1]}", f"-{deed[1]}") + row[goal:]
    begin, end = _block(row, deed[1])
    if word == "cut":
        return row[:begin] + row[end:]
    if word == "wrap":
        return row[:begin] + (f"+{deed[2]}",) + row[begin:end] + (f"-{deed[2]}",) + row[end:]
    if word == "pour":
        return _moved(row, begin + 1, end - 1, row.index(f"-{deed[2]}"))
    return _moved(row, begin, end, _goal(row, deed))


def _block(row, name):
    """The places between which the block of a node stands."""
    return row.index(f"+{name}"), row.index(f"-{name}") + 1


def _goal(row, deed):
    """The place ahead of which a move puts the block."""
    word = deed[0]
    if word == "front":
        return 0
    if word == "back":
        return len(row)
    begin, end = _block(row, deed[2])
    if word == "first":
        return begin + 1
    if word == "last":
        return end - 1
    return begin if word == "ahead" else end


def _moved(row, begin, end, goal):
    """The row with the items from begin to end put ahead of goal."""
    if goal <= begin:
        return row[:goal] + row[begin:end] + row[goal:begin] + row[end:]
    return row[:begin] + row[end:goal] + row[begin:end] + row[goal:]


def _swapped(row, a, b):
    """The row with two blocks, neither in the other, exchanged."""
    (begin, end), (start, stop) = sorted([_block(row, a), _block(row, b)])
    return row[:begin] + row[start:stop] + row[end:start] + row[begin:end] + row[stop:]


def _turned(row, a, b):
    """The row with two names exchanged."""
    others = {f"+{a}": f"+{b}", f"-{a}": f"-{b}", f"+{b}": f"+{a}", f"-{b}": f"-{a}"}
    return tuple([others.get(item, item) for item in row])


def possible_lasts(row, deeds):
    """Those of some deeds that may have led to a row, each with the row ahead of it, None if this is not known.

    What a deed puts somewhere stands right beside its goal, whatever row
    it came from: a deed that has not left this can be left out.
    """
    behind = dict(zip(("",) + row, row + ("",)))
    found = {}
    for deed in deeds:
        if deed[0] in ("swap", "turn"):
            # Both undo themselves, so they do not stop on what they led to.
            if stop_word(row, deed) is None:
                found[deed] = row_behind(row, deed)
        elif _has_left(behind, deed):
            found[deed] = None
    return found


def _has_left(behind, deed):
    """Whether a row has what a deed leaves; behind tells what follows each item, an empty string is the edge."""
    word, a, b = deed[0], deed[1], deed[-1]
    if word == "front":
        return behind[""] == f"+{a}"
    if word == "back":
        return behind.get(f"-{a}") == ""
    if word in ("lift", "cut"):
        return f"+{a}" not in behind
    if word == "first":
        return behind.get(f"+{b}") == f"+{a}"
    if word == "last":
        return behind.get(f"-{a}") == f"-{b}"
    if word == "ahead":
        return behind.get(f"-{a}") == f"+{b}"
    if word == "behind":
        return behind.get(f"-{b}") == f"+{a}"
    if word == "wrap":
        return behind.get(f"+{b}") == f"+{a}" and behind.get(f"-{a}") == f"-{b}"
    # What is poured leaves its node bare, and what is put is bare.
    return behind.get(f"+{a}") == f"-{a}" and (word == "pour" or behind.get(f"-{a}") == f"-{b}")
