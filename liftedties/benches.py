"""Benches: webs by names, with edits that are taken back ([J2] to [J5])."""

from liftedties.bounds import MAX_EDITS
from liftedties.edits import batch_done, check_web, deed_done, dropped, kept, tie_turned, web_on
from liftedties.errors import NothingToRedo, NothingToUndo, NoVersion, TiesError, TooManyEdits
from liftedties.joining import parting
from liftedties.kinds import kind_of
from liftedties.numbering import web_number
from liftedties.rowsbetween import row_between
from liftedties.sizes import size_of


class Bench:
    """A shelf of webs by names, the edits that made it, and those that were taken back."""

    def __init__(self):
        # Both hold pairs of an edit and the shelf behind it. They are tuples, so that what a copy
        # or an attempt keeps of them stays as it is.
        self._standing = ()
        self._taken_back = ()
        self._remembered = {}

    def _shelf(self):
        """The shelf as it is now."""
        return self.at(self.version)

    @property
    def names(self):
        """The names on the shelf, ascending."""
        return tuple([name for name, _ in self._shelf()])

    @property
    def version(self):
        """How many edits stand."""
        return len(self._standing)

    @property
    def log(self):
        """The edits that stand, in order: tuples of the word of each and its arguments."""
        return tuple([edit for edit, _ in self._standing])

    @property
    def made(self):
        """How many answers to many_like and number_of were reckoned."""
        return len(self._remembered)

    def __getitem__(self, at):
        return web_on(self._shelf(), at)

    def __iter__(self):
        raise TypeError("a bench is asked for a web by its name; it is not gone through")

    def __eq__(self, other):
        return isinstance(other, Bench) and self._shelf() == other._shelf()

    def _edit(self, edit, shelf):
        """Let an edit stand that leads to this shelf; all that were taken back are forgotten."""
        if self.version >= MAX_EDITS:
            raise TooManyEdits()
        self._standing = (*self._standing, (edit, shelf))
        self._taken_back = ()
        return self.version

    def keep(self, name, web):
        """Give the name the web."""
        return self._edit(("keep", name, web), kept(self._shelf(), name, web))

    def drop(self, name):
        """Take the name away, with its web."""
        return self._edit(("drop", name), dropped(self._shelf(), name))

    def do(self, name, deed):
        """Do the deed in the web of the name."""
        return self._edit(("do", name, deed), deed_done(self._shelf(), name, deed))

    def turn(self, name, tie):
        """Put the tie into the web of the name, or take it out."""
        return self._edit(("turn", name, tie), tie_turned(self._shelf(), name, tie))

    def batch(self, edits):
        """Do all these edits as one, or none of them."""
        return self._edit(("batch", edits), batch_done(self._shelf(), edits))

    def parts(self, name, other):
        """What keeps the web of the name and another one apart, if anything does."""
        web = self[name]
        check_web(other)
        return parting(web, other)

    def walk(self, name, other):
        """Any row of deeds from the web of the name to another one."""
        web = self[name]
        check_web(other)
        return row_between(web, other)

    def many_like(self, name):
        """How many webs are of the kind of the web of the name."""
        web = self[name]
        ask = ("many_like", web)
        if ask not in self._remembered:
            self._remembered[ask] = size_of(kind_of(web))
        return self._remembered[ask]

    def number_of(self, name):
        """The number of the web of the name among those of its kind."""
        web = self[name]
        ask = ("number_of", web)
        if ask not in self._remembered:
            self._remembered[ask] = web_number(web)
        return self._remembered[ask]

    def undo(self):
        """Take back the last edit that stands."""
        if self.version == 0:
            raise NothingToUndo()
        self._taken_back = (*self._taken_back, self._standing[-1])
        self._standing = self._standing[:-1]
        return self.version

    def redo(self):
        """Do again the edit that was taken back last."""
        if len(self._taken_back) == 0:
            raise NothingToRedo()
        self._standing = (*self._standing, self._taken_back[-1])
        self._taken_back = self._taken_back[:-1]
        return self.version

    def at(self, version):
        """The shelf when so many edits stood. NoVersion(given) if any value is no such number."""
        if type(version) is not int or not 0 <= version <= self.version:
            raise NoVersion(version)
        return self._standing[version - 1][1] if version > 0 else ()

    def copy(self):
        """A bench like this one, of its own from here on."""
        other = Bench()
        other._standing = self._standing
        other._taken_back = self._taken_back
        other._remembered = {ask: self._remembered[ask] for ask in self._remembered}
        return other

    def attempt(self, work):
        """What work makes of the bench; if it raises a TiesError, its edits are as if never done."""
        standing, taken_back = self._standing, self._taken_back
        try:
            return work(self)
        except TiesError:
            self._standing, self._taken_back = standing, taken_back
            raise
