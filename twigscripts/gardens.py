"""Gardens: woods that are changed by edits."""

from twigscripts.bounds import MAX_EDITS
from twigscripts.deeds import check_script, deed_error, do_script
from twigscripts.errors import BadDeed, Broken, Busy, Lost, NothingToUndo, NoVersion, TooManyEdits
from twigscripts.scripts import Script
from twigscripts.wishes import is_so
from twigscripts.woods import check_wood, names_of, parent_of


class Garden:
    """A wood that is changed by edits, each of which is done wholly or not at all."""

    def __init__(self, wood=()):
        check_wood(wood)
        # Each step is the script of an edit and the wood behind it. All that changes
        # is kept in tuples, so that together can take everything back at once.
        self._steps = ((None, wood),)
        self._wish = None
        # Only a LoggedGarden writes it, but it is copied and taken back with the steps.
        self._log = ()
        # The version ahead of the call of together that goes on, None outside of one.
        self._since = None

    @property
    def wood(self):
        return self._steps[-1][1]

    @property
    def version(self):
        return len(self._steps) - 1

    @property
    def wish(self):
        return self._wish

    def want(self, value):
        """Sets the wish, or none."""
        self._check_free()
        # What is neither None nor a wish, is_so refuses.
        if value is not None and not is_so(value, self.wood):
            raise Broken()
        self._wish = value

    def do(self, deed):
        """Does a deed as an edit."""
        return self._do_deed(deed, "do")

    def run(self, script):
        """Does a script, or a Script, as an edit."""
        self._check_room()
        deeds = script.deeds if isinstance(script, Script) else script
        check_script(deeds)
        return self._edit(deeds, "run")

    def names(self):
        """The names in the order of their first ends."""
        return names_of(self.wood)

    def has(self, value):
        """Whether a node of this name is there."""
        return value in names_of(self.wood)

    def undo(self):
        """Takes back the last edit."""
        if self.version == (0 if self._since is None else self._since):
            raise NothingToUndo()
        self._check_wish(self._steps[-2][1])
        self._steps = self._steps[:-1]
        self._note("undo")
        return self.version

    def edits(self):
        """The scripts of all edits in effect, in order."""
        return tuple([script for script, _ in self._steps[1:]])

    def wood_before(self, version):
        """The wood after so many edits."""
        self._check_free()
        if not isinstance(version, int) or isinstance(version, bool) or not 0 <= version <= self.version:
            raise NoVersion(version)
        return self._steps[version][1]

    def copy(self):
        """A new garden of the same class with the same edits, wish and log."""
        self._check_free()
        other = self._blank()
        other._steps = self._steps
        other._wish = self._wish
        other._log = self._log
        return other

    def together(self, work):
        """Calls work with the garden, and makes all that it does one edit; nothing of it is left if it raises."""
        self._check_free()
        steps, log = self._steps, self._log
        joined = None
        self._since = self.version
        try:
            work(self)
            joined = self._joined(len(steps))
        finally:
            self._since = None
            if joined is None:
                self._steps, self._log = steps, log
        self._steps = joined
        self._note("together")
        return self.version

    def __iadd__(self, other):
        self.run(other)
        return self

    def __getitem__(self, name):
        return parent_of(self.wood, name)

    def __setitem__(self, name, parent):
        self._do_deed(("back", name) if parent is None else ("last", name, parent), "set")

    def __iter__(self):
        raise TypeError("a garden is not iterated over: take its names()")

    def __len__(self):
        return len(names_of(self.wood))

    def __eq__(self, other):
        return isinstance(other, Garden) and self.wood == other.wood and self.wish == other.wish

    def __str__(self):
        return f"{len(names_of(self.wood))} nodes, {self.version} edits"

    def _do_deed(self, deed, word):
        self._check_room()
        error = deed_error(deed)
        if error is not None:
            raise BadDeed(error)
        return self._edit((deed,), word)

    def _edit(self, deeds, word):
        """Does deeds as one edit, which is logged by this word."""
        wood = do_script(self.wood, deeds)
        self._check_kept(wood)
        self._check_wish(wood)
        self._steps = self._steps + ((deeds, wood),)
        self._note(word)
        return self.version

    def _joined(self, many):
        """The steps with all behind the first so many as one."""
        within = self._steps[many:]
        if not within:
            return self._steps
        wood = within[-1][1]
        if self._is_broken(wood):
            raise Broken()
        return self._steps[:many] + ((tuple([deed for deeds, _ in within for deed in deeds]), wood),)

    def _check_free(self):
        """Raises Busy within together."""
        if self._since is not None:
            raise Busy()

    def _check_room(self):
        if self.version >= MAX_EDITS:
            raise TooManyEdits()

    def _check_wish(self, wood):
        """Raises Broken if the wish is not so of a wood; it is not looked at within together."""
        if self._since is None and self._is_broken(wood):
            raise Broken()

    def _is_broken(self, wood):
        return self._wish is not None and not is_so(self._wish, wood)

    def _check_kept(self, wood):
        """A garden lets nodes go; a careful one does not."""

    def _note(self, word):
        """A garden writes no log; a logged one does."""

    def _blank(self):
        """A new garden of this class."""
        return Garden()


class CarefulGarden(Garden):
    """A garden whose edits take no node away."""

    def _check_kept(self, wood):
        kept = names_of(wood)
        for name in names_of(self.wood):
            if name not in kept:
                raise Lost(name)

    def _blank(self):
        return CarefulGarden()


class LoggedGarden(Garden):
    """A garden that keeps a log of all that changed it."""

    @property
    def log(self):
        return self._log

    def _note(self, word):
        self._log = self._log + ((word, self.version),)

    def _blank(self):
        return LoggedGarden()


class CarefulLoggedGarden(LoggedGarden, CarefulGarden):
    """A garden that takes no node away and keeps a log."""

    def _blank(self):
        return CarefulLoggedGarden()
