"""A console that works on a garden by lines of text."""

from twigscripts.deeds import check_script
from twigscripts.errors import (
    BadScript, BadText, BadWish, BadWood, Broken, Busy, Clash, Lost, NoName, NothingToUndo, Stopped, TooMany,
    TooManyEdits, Unlike,
)
from twigscripts.moves import fewest
from twigscripts.pairs import alike, fate, loses
from twigscripts.short import lean
from twigscripts.texts import read_names, read_script, read_wish, read_wood, script_text, wood_text
from twigscripts.wishes import check_wish, is_so
from twigscripts.woods import check_wood

_MOST_KEPT = 20
_UNKNOWN = "unknown command"


class Console:
    """Does commands, which are lines of text, with a garden."""

    def __init__(self, garden):
        self._garden = garden
        self._kept = ()

    @property
    def history(self):
        return self._kept

    def say(self, line):
        """Does a command and returns the answer."""
        is_text = isinstance(line, str)
        answer = self._answer(line) if is_text else _UNKNOWN
        self._kept = (self._kept + ((line if is_text else None, answer),))[-_MOST_KEPT:]
        return answer

    def _answer(self, line):
        """The answer to a line, also if it asks for what cannot be."""
        try:
            return self._answer_or_error(line)
        except BadText:
            return _UNKNOWN
        except BadScript:
            return "error BadScript"
        except BadWish:
            return "error BadWish"
        except BadWood:
            return "error BadWood"
        except Broken:
            return "error Broken"
        except Busy:
            return "error Busy"
        except Clash:
            return "error Clash"
        except Lost:
            return "error Lost"
        except NoName:
            return "error NoName"
        except NothingToUndo:
            return "error NothingToUndo"
        except Stopped:
            return "error Stopped"
        except TooMany:
            return "error TooMany"
        except TooManyEdits:
            return "error TooManyEdits"
        except Unlike:
            return "error Unlike"

    def _answer_or_error(self, line):
        word, _, rest = line.partition(" ")
        if word in ("do", "put", "root") or line == "undo":
            return self._changed(word, rest)
        if word in ("wish", "parent", "so", "moves") or line in ("wood", "names"):
            return self._asked(word, rest)
        if word in ("fate", "parts", "loses", "lean"):
            return _told_of_scripts(word, rest)
        return _UNKNOWN

    def _changed(self, word, rest):
        """The answer to a command that is an edit, or takes one back."""
        if word == "do":
            self._garden.run(_script_in(rest))
        elif word == "put":
            name, parent = read_names(rest, 2)
            self._garden[name] = parent
        elif word == "root":
            name = read_names(rest, 1)[0]
            self._garden[name] = None
        else:
            self._garden.undo()
        return f"ok {self._garden.version}"

    def _asked(self, word, rest):
        """The answer to a command that changes no wood."""
        if word == "wish":
            self._garden.want(None if rest == "-" else _wish_in(rest))
            return "ok"
        if word == "wood":
            return wood_text(self._garden.wood)
        if word == "names":
            return " ".join(self._garden.names()) if self._garden.names() else "-"
        if word == "parent":
            parent = self._garden[read_names(rest, 1)[0]]
            return "-" if parent is None else parent
        if word == "so":
            return "yes" if is_so(_wish_in(rest), self._garden.wood) else "no"
        return script_text(fewest(self._garden.wood, _wood_in(rest)))


def _script_in(text):
    script = read_script(text)
    check_script(script)
    return script


def _wish_in(text):
    wish = read_wish(text)
    check_wish(wish)
    return wish


def _wood_in(text):
    wood = read_wood(text)
    check_wood(wood)
    return wood


def _told_of_scripts(word, rest):
    """The answer to a command that asks of scripts for all woods."""
    if word == "parts":
        return _parting(rest)
    script = _script_in(rest)
    if word == "fate":
        return fate(script)
    if word == "lean":
        return script_text(lean(script))
    pair = loses(script)
    return "nothing" if pair is None else f"{wood_text(pair[0])} / {wood_text(pair[1])}"


def _parting(rest):
    one, _, other = rest.partition(" / ")
    # Both are read ahead of a look at either.
    scripts = [read_script(one), read_script(other)]
    for script in scripts:
        check_script(script)
    wood = alike(scripts[0], scripts[1])
    return "alike" if wood is None else wood_text(wood)
