"""Scripts as objects."""

from twigscripts.bounds import MAX_DEEDS
from twigscripts.deeds import check_script, do_script, new_names, old_names
from twigscripts.errors import Unlike
from twigscripts.pairs import alike, within
from twigscripts.texts import read_script, script_text
from twigscripts.woods import check_wood


class Script:
    """A script that can be asked, done and put together with others. It never changes."""

    def __init__(self, deeds=()):
        check_script(deeds)
        self._deeds = deeds

    @property
    def deeds(self):
        return self._deeds

    @property
    def old(self):
        return old_names(self._deeds)

    @property
    def new(self):
        return new_names(self._deeds)

    @classmethod
    def of_text(cls, value):
        """The Script of a text."""
        return cls(read_script(value))

    def parts(self, other):
        """None if another Script does alike, otherwise a wood on which it does not."""
        if not isinstance(other, Script):
            raise Unlike()
        return alike(self._deeds, other.deeds)

    def is_within(self, other):
        """Whether another Script does the same wherever this one does."""
        if not isinstance(other, Script):
            raise Unlike()
        return within(self._deeds, other.deeds) is None

    def __add__(self, other):
        return Script(self._deeds + _deeds_of(other))

    def __radd__(self, other):
        return Script(_deeds_of(other) + self._deeds)

    def __mul__(self, other):
        if not isinstance(other, int) or isinstance(other, bool) or not 0 <= other <= MAX_DEEDS:
            raise Unlike()
        return Script(self._deeds * other)

    def __rmul__(self, other):
        return self * other

    def __len__(self):
        return len(self._deeds)

    def __contains__(self, value):
        return value in self.old + self.new

    def __eq__(self, other):
        return isinstance(other, Script) and self._deeds == other.deeds

    def __call__(self, wood):
        check_wood(wood)
        return do_script(wood, self._deeds)

    def __str__(self):
        # The rules of the language want to see here that it is a string.
        return str(script_text(self._deeds))


def _deeds_of(value):
    """The deeds of a Script; a tuple stands for its own items."""
    if isinstance(value, Script):
        return value.deeds
    if not isinstance(value, tuple):
        raise Unlike()
    return value
