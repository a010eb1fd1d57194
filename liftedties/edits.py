"""Shelves, and what edits make of them ([J1], [J3]).

A shelf is never changed: each edit here returns the shelf behind it, or raises an error.
"""

from liftedties.bounds import BATCH, MAX_NAME, MAX_NAMES
from liftedties.deeds import deed_error, done
from liftedties.errors import BadBatch, BadEdit, BadWeb, NoName, Rejected, TiesError, TooMany, Unfit
from liftedties.webs import is_pair, web_error

# How many arguments stand behind the word of each edit.
ARGUMENTS = {"keep": 2, "drop": 1, "do": 2, "turn": 2, "batch": 1}


def is_name(value):
    """Whether any value is a string of as many small letters as a name may have."""
    return type(value) is str and 1 <= len(value) <= MAX_NAME and all(["a" <= sign <= "z" for sign in value])


def is_edit(value):
    """Whether any value is a tuple of the word of an edit and of as many arguments as it has."""
    if type(value) is not tuple or len(value) == 0 or type(value[0]) is not str:
        return False
    return ARGUMENTS.get(value[0]) == len(value) - 1


def is_batch(value):
    """Whether any value is a tuple of few edits, none of them a batch."""
    if type(value) is not tuple or len(value) > BATCH:
        return False
    return all([is_edit(item) and item[0] != "batch" for item in value])


def web_on(shelf, name):
    """The web of a name on the shelf. NoName(given) if any value is no name on it."""
    for some, web in shelf:
        if some == name:
            return web
    raise NoName(name)


def check_web(value):
    """BadWeb(error) if any value is no web."""
    error = web_error(value)
    if error is not None:
        raise BadWeb(error)


def without_name(shelf, name):
    """The shelf without this name and its web."""
    return tuple([(some, web) for some, web in shelf if some != name])


def with_web(shelf, name, web):
    """The shelf on which the name has this web, in the place of an elder one."""
    return tuple(sorted([*without_name(shelf, name), (name, web)]))


def kept(shelf, name, web):
    """The shelf behind keep."""
    if not is_name(name):
        raise Unfit()
    check_web(web)
    behind = with_web(shelf, name, web)
    if len(behind) > MAX_NAMES:
        raise TooMany(MAX_NAMES)
    return behind


def dropped(shelf, name):
    """The shelf behind drop."""
    web_on(shelf, name)
    return without_name(shelf, name)


def deed_done(shelf, name, deed):
    """The shelf behind do."""
    web = web_on(shelf, name)
    error = deed_error(web, deed)
    if error is not None:
        raise BadEdit(error)
    return with_web(shelf, name, done(web, (deed,)))


def tie_turned(shelf, name, tie):
    """The shelf behind turn."""
    many, ties = web_on(shelf, name)
    if not is_pair(many, tie):
        raise BadEdit("tie")
    return with_web(shelf, name, (many, tuple(sorted(set(ties) ^ {tie}))))


PARTS = {"keep": kept, "drop": dropped, "do": deed_done, "turn": tie_turned}


def batch_done(shelf, edits):
    """The shelf behind batch."""
    if not is_batch(edits):
        raise BadBatch()
    for index, edit in enumerate(edits):
        part = PARTS[edit[0]]
        arguments = edit[1:]
        try:
            shelf = part(shelf, *arguments)
        except TiesError:
            raise Rejected(index) from None
    return shelf
