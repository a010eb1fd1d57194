"""Logs of edits as text, and the benches behind them ([J6])."""

from liftedties.benches import Bench
from liftedties.bounds import MAX_NEST
from liftedties.edits import is_edit, is_name
from liftedties.errors import BadLog, BadText, TiesError

# So an integer with a text is at most 999999 off 0.
MOST_FIGURES = 6


def text_of(value):
    """The text of a value that has one."""
    if type(value) is tuple:
        return "(" + ",".join([text_of(item) for item in value]) + ")"
    return str(value)


def log_text(edits):
    """The texts of these edit tuples, each with a line feed behind it."""
    return "".join([text_of(edit) + "\n" for edit in edits])


def is_number(word):
    """Whether the word is the decimal of an integer that has a text."""
    figures = word[1:] if word.startswith("-") else word
    # By its length first: int() fails on very long ones.
    if not 1 <= len(figures) <= MOST_FIGURES or not all(["0" <= sign <= "9" for sign in figures]):
        return False
    return str(int(word)) == word


def read_word(word):
    """The name or the integer of which the word is the text. BadText() if there is none."""
    if is_name(word):
        return word
    if is_number(word):
        return int(word)
    raise BadText()


def read_item(line, at, depth):
    """The value of which a text stands in the line from here on, and where it ends; so many brackets are around it."""
    if line.startswith("(", at):
        return read_tuple(line, at + 1, depth + 1)
    end = at
    while end < len(line) and line[end] not in "(),":
        end += 1
    return (read_word(line[at:end]), end)


def read_tuple(line, at, depth):
    """The same for a tuple whose bracket stands ahead; so many brackets are not closed yet."""
    if depth > MAX_NEST:
        raise BadText()
    if line.startswith(")", at):
        return ((), at + 1)
    items = []
    while True:
        item, end = read_item(line, at, depth)
        items.append(item)
        at = end + 1
        if line.startswith(")", end):
            return (tuple(items), at)
        if not line.startswith(",", end):
            raise BadText()


def read_line(line):
    """The edit tuple of which the line is the text. BadText() if there is none."""
    value, end = read_item(line, 0, 0)
    if end < len(line) or not is_edit(value):
        raise BadText()
    return value


def read_log(value):
    """The edit tuples of which the lines of any value are the texts. BadLog(place) with the first bad line."""
    if type(value) is not str:
        raise BadLog(0)
    edits = []
    for place, line in enumerate(value.split("\n")[:-1]):
        try:
            edits.append(read_line(line))
        except BadText:
            raise BadLog(place) from None
    return tuple(edits)


def bench_behind(edits):
    """A new bench by which all these edit tuples were done. BadLog(place) with the first that cannot be."""
    bench = Bench()
    ways = {"keep": bench.keep, "drop": bench.drop, "do": bench.do, "turn": bench.turn, "batch": bench.batch}
    for place, edit in enumerate(edits):
        way = ways[edit[0]]
        arguments = edit[1:]
        try:
            way(*arguments)
        except TiesError:
            raise BadLog(place) from None
    return bench
