"""The errors of the package, each for one kind of failure.

Each error with an argument keeps it as it was passed. The words are fixed, so that an
error can be made of any value, also of one that cannot be written out.
"""


class TiesError(ValueError):
    """What all errors of the package have in common."""


class Unfit(TiesError):
    """What was handed in does not fit together, or there is no such thing."""


class BadText(TiesError):
    """The text of no web."""


class BadWeb(TiesError):
    """No web: error is what web_error tells of it."""

    def __init__(self, error):
        super().__init__("this is no web")
        self.error = error


class Barred(TiesError):
    """A deed that cannot be done: place is its place in the row of deeds."""

    def __init__(self, place):
        super().__init__("a deed of this row cannot be done")
        self.place = place


class Apart(TiesError):
    """No row of deeds leads there: paper tells what keeps both apart."""

    def __init__(self, paper):
        super().__init__("no row of deeds leads there")
        self.paper = paper


class NoLifts(TiesError):
    """No row of lifts leads there, though a row of deeds does."""


class TooMany(TiesError):
    """More than limit lets."""

    def __init__(self, limit):
        super().__init__("these are too many")
        self.limit = limit


class NoName(TiesError):
    """The bench has no web of the name given."""

    def __init__(self, given):
        super().__init__("the bench does not have this name")
        self.given = given


class BadEdit(TiesError):
    """An edit that cannot be done on the web: error tells why."""

    def __init__(self, error):
        super().__init__("this edit cannot be done")
        self.error = error


class BadBatch(TiesError):
    """No tuple of edits that can be done as one."""


class Rejected(TiesError):
    """A batch of which the edit at index raised an error."""

    def __init__(self, index):
        super().__init__("an edit of this batch cannot be done")
        self.index = index


class TooManyEdits(TiesError):
    """As many edits stand as may."""


class NothingToUndo(TiesError):
    """No edit stands that could be taken back."""


class NothingToRedo(TiesError):
    """No edit was taken back that could be done again."""


class NoVersion(TiesError):
    """The bench has no version of the number given."""

    def __init__(self, given):
        super().__init__("the bench does not have this version")
        self.given = given


class BadLog(TiesError):
    """A log that cannot be read or done: place is that of its first bad part."""

    def __init__(self, place):
        super().__init__("a part of this log cannot be read or done")
        self.place = place
