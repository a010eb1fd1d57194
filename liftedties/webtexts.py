"""The texts of webs ([A7])."""

from liftedties.bounds import MAX_PLACES
from liftedties.errors import BadText
from liftedties.webs import web_error


def web_text(web):
    """The text of the web."""
    many, ties = web
    return f"{many}:" + "".join([f" {one}-{other}" for one, other in ties])


def read_number(word):
    """The number up to MAX_PLACES of which the word is the decimal."""
    # Not by int(): it takes more than decimals, and fails on very long ones.
    for number in range(MAX_PLACES + 1):
        if word == str(number):
            return number
    raise BadText()


def read_tie(word):
    """The two numbers that stand on both sides of the first "-" of the word."""
    one, _, other = word.partition("-")
    return (read_number(one), read_number(other))


def read_web(value):
    """The web of which any value is the text. BadText() if it is the text of none."""
    if type(value) is not str:
        raise BadText()
    words = value.split(" ")
    if not words[0].endswith(":"):
        raise BadText()
    web = (read_number(words[0][:-1]), tuple([read_tie(word) for word in words[1:]]))
    if web_error(web) is not None:
        raise BadText()
    return web
