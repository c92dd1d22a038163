"""A second way to keep a garden, written for the tests alone: plain lists, and woods done anew from the first one."""

from tests.other_ways import plain_script, plain_so, stopped
from tests.samples import paths
from twigscripts.errors import Broken, Busy, Lost, NothingToUndo, Stopped, TooManyEdits


class PlainGarden:

    def __init__(self, wood, careful, logged):
        self.first, self.careful, self.logged = wood, careful, logged
        self.scripts, self.wish, self.log, self.ahead = [], None, [], None

    def wood(self, many=None):
        wood = self.first
        for script in self.scripts[:many]:
            wood = plain_script(wood, script)
        return wood

    def is_broken(self, wood):
        return self.wish is not None and not plain_so(self.wish, wood)

    def edit(self, word, script):
        if len(self.scripts) == 60:
            raise TooManyEdits()
        before, behind = self.wood(), plain_script(self.wood(), script)
        if stopped(behind):
            raise Stopped(*behind)
        lost = [name for name in sorted(paths(before), key=paths(before).get) if name not in paths(behind)]
        if self.careful and lost:
            raise Lost(lost[0])
        if self.ahead is None and self.is_broken(behind):
            raise Broken()
        self.scripts.append(script)
        return self.note(word)

    def note(self, word):
        self.log += [(word, len(self.scripts))] * self.logged
        return len(self.scripts)

    def undo(self):
        if len(self.scripts) == (self.ahead or 0):
            raise NothingToUndo()
        if self.ahead is None and self.is_broken(self.wood(len(self.scripts) - 1)):
            raise Broken()
        self.scripts.pop()
        return self.note("undo")

    def want(self, wish):
        if self.ahead is not None:
            raise Busy()
        if wish is not None and not plain_so(wish, self.wood()):
            raise Broken()
        self.wish = wish

    def begin(self):
        """Begins what together does."""
        self.kept = (list(self.scripts), list(self.log))
        self.ahead = len(self.scripts)

    def end(self, error):
        """Ends what together does, with an error that work raises, or None."""
        scripts, log = self.kept
        self.ahead = None
        if error is not None or self.is_broken(self.wood()):
            self.scripts, self.log = scripts, log
            raise error or Broken()
        inner = self.scripts[len(scripts):]
        self.scripts = scripts + [tuple(deed for script in inner for deed in script)] * (inner != [])
        return self.note("together")

    def state(self):
        return (self.wood(), len(self.scripts), self.wish, tuple(self.scripts), tuple(self.log))
