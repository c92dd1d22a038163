"""Woods, scripts and wishes as texts.

Whatever is read here is read from left to right, and each character is
taken only if some text goes on so: the first one that is not taken is
the first wrong one.
"""

from twigscripts.errors import BadText
from twigscripts.names import is_name
from twigscripts.steps import FORMS
from twigscripts.wishes import WISH_FORMS
from twigscripts.woods import row_of, unchecked_wood

# So many brackets may be open at once.
_MOST_OPEN = 40


def wood_text(wood):
    """The text of a wood."""
    row = row_of(wood)
    pieces = []
    for before, end in zip(("",) + row, row):
        if end[0] == "+":
            pieces.append(_between(before) + end[1:])
        elif before[0] == "-":
            pieces.append(")")
    return "".join(pieces) if row else "-"


def _between(before):
    """What stands ahead of a name, by the end ahead of it."""
    if before == "":
        return ""
    return "(" if before[0] == "+" else " "


def script_text(script):
    """The text of a script."""
    return "; ".join([" ".join(deed) for deed in script]) if script else "-"


def wish_text(wish):
    """The text of a wish."""
    parts = " ".join([part if isinstance(part, str) else wish_text(part) for part in wish[1:]])
    return f"{wish[0]}({parts})"


def read_wood(value):
    """The wood of a text, of any size, perhaps with a name more than once."""
    if _is_empty(value):
        return ()
    ends = []
    around = []
    place = 0
    while True:
        name = _name_at(value, place)
        place = place + len(name)
        ends.append(f"+{name}")
        if value[place:place + 1] == "(" and len(around) < _MOST_OPEN:
            around.append(name)
        else:
            ends.append(f"-{name}")
            while value[place:place + 1] == ")" and around:
                ends.append(f"-{around.pop()}")
                place = place + 1
            if place == len(value) and not around:
                return unchecked_wood(ends)
            _past(value, place, " ")
        place = place + 1


def read_script(value):
    """The script of a text, of any size."""
    if _is_empty(value):
        return ()
    deeds = []
    place = 0
    while True:
        word = _word_at(value, place, list(FORMS))
        names, place = _names_at(value, place + len(word), len(FORMS[word]))
        deeds.append((word,) + names)
        if place == len(value):
            return tuple(deeds)
        place = _past(value, place, "; ")


def read_wish(value):
    """The wish of a text, of any size."""
    _check_text(value)
    wish, place = _wish_at(value, 0, 0)
    _check_end(value, place)
    return wish


def read_names(value, many):
    """So many names with one blank between."""
    name = _name_at(value, 0)
    names, place = _names_at(value, len(name), many - 1)
    _check_end(value, place)
    return (name,) + names


def _check_text(value):
    if not isinstance(value, str):
        raise BadText(None)


def _check_end(text, place):
    if place < len(text):
        raise BadText(place)


def _is_empty(value):
    """Whether a text is that of the empty wood or script."""
    _check_text(value)
    if value[:1] == "-":
        _check_end(value, 1)
    return value == "-"


def _past(text, place, signs):
    """The place behind these signs, which have to stand here."""
    for at, sign in enumerate(signs):
        if text[place + at:place + at + 1] != sign:
            raise BadText(place + at)
    return place + len(signs)


def _name_at(text, place):
    """The longest name that stands here."""
    end = place
    while end < len(text) and is_name(text[place:end + 1]):
        end = end + 1
    if end == place:
        raise BadText(place)
    return text[place:end]


def _names_at(text, place, many):
    """So many names, each with a blank ahead, and the place behind them."""
    names = []
    for _ in range(many):
        place = _past(text, place, " ")
        names.append(_name_at(text, place))
        place = place + len(names[-1])
    return tuple(names), place


def _word_at(text, place, words):
    """The one of these words that stands here, none of which begins another one."""
    end = place
    while text[place:end] not in words:
        end = end + 1
        begun = [word for word in words if word.startswith(text[place:end])]
        if end > len(text) or not begun:
            raise BadText(end - 1)
    return text[place:end]


def _wish_at(text, place, many):
    """The wish that stands here behind so many open brackets, and the place behind it."""
    words = list(WISH_FORMS)
    if many == _MOST_OPEN - 1:
        # A wish in this one could not open its own bracket.
        words = [word for word in words if "w" not in WISH_FORMS[word]]
    word = _word_at(text, place, words)
    place = _past(text, place + len(word), "(")
    parts = [word]
    for at, kind in enumerate(WISH_FORMS[word]):
        if at > 0:
            place = _past(text, place, " ")
        if kind == "n":
            part = _name_at(text, place)
            place = place + len(part)
        else:
            part, place = _wish_at(text, place, many + 1)
        parts.append(part)
    return tuple(parts), _past(text, place, ")")
