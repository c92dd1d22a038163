"""The errors of the package.

No constructor calls that of its base class: so the arguments stand in
the error as they were passed, and BadRow(2) is shown as BadRow(2).
"""


class TwigError(ValueError):
    """Something that a call was passed, or asked for, cannot be."""


class BadDeed(TwigError):
    """A value is no deed."""

    def __init__(self, error):
        self.error = error


class BadGaps(TwigError):
    """A value is no filling for the gaps of a wood."""


class BadNames(TwigError):
    """A value is no tuple of names as it is asked for."""


class BadRow(TwigError):
    """A value is no row; place is that of the first end that cannot stand."""

    def __init__(self, place):
        self.place = place


class BadScript(TwigError):
    """A value is no script."""

    def __init__(self, error):
        self.error = error


class BadText(TwigError):
    """A text is not of the form that is asked for."""

    def __init__(self, position):
        self.position = position


class BadWish(TwigError):
    """A value is no wish."""

    def __init__(self, error):
        self.error = error


class BadWood(TwigError):
    """A value is no wood."""

    def __init__(self, error):
        self.error = error


class Broken(TwigError):
    """A garden's wish would not be so."""


class Busy(TwigError):
    """A garden cannot do this within a call of together."""


class Clash(TwigError):
    """A name is old and new at once."""

    def __init__(self, name):
        self.name = name


class Lost(TwigError):
    """An edit would take a node away from a careful garden."""

    def __init__(self, name):
        self.name = name


class NothingToUndo(TwigError):
    """A garden has no edit that can be taken back."""


class Stopped(TwigError):
    """A deed stops; index is its place in the script, word says why."""

    def __init__(self, index, word):
        self.index = index
        self.word = word


class TooMany(TwigError):
    """There are more names than the limit."""

    def __init__(self, limit):
        self.limit = limit


class TooManyEdits(TwigError):
    """A garden has as many edits in effect as it may have."""


class Unlike(TwigError):
    """Two values do not go together."""


class NoName(LookupError):
    """A name is not in the wood."""

    def __init__(self, name):
        self.name = name


class NoVersion(LookupError):
    """A garden has no such version."""

    def __init__(self, value):
        self.value = value
