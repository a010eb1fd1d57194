"""Webs: places, and ties between some pairs of them ([A4] to [A6])."""

from liftedties.bounds import MAX_PLACES


def pairs_of(many):
    """The pairs of so many places, ascending."""
    return [(one, other) for one in range(many) for other in range(one + 1, many)]


def in_order(one, other):
    """The pair of two unlike places, the lesser one first."""
    return (min(one, other), max(one, other))


def is_place(many, value):
    """Whether any value is one of so many places. (True and False are none.)"""
    return type(value) is int and 0 <= value < many


def is_pair(many, value):
    """Whether any value is a pair of so many places, the lesser one first."""
    if type(value) is not tuple or len(value) != 2:
        return False
    one, other = value
    return is_place(many, one) and is_place(many, other) and one < other


def has_web_form(value):
    """Whether any value is a pair of a number of places and a tuple."""
    if type(value) is not tuple or len(value) != 2:
        return False
    many, ties = value
    return type(many) is int and 1 <= many <= MAX_PLACES and type(ties) is tuple


def web_error(value):
    """None for a web, otherwise the first thing that is wrong with value."""
    if not has_web_form(value):
        return "form"
    many, ties = value
    for place, tie in enumerate(ties):
        if not is_pair(many, tie):
            return ("tie", place)
    for place in range(1, len(ties)):
        if ties[place] <= ties[place - 1]:
            return ("order", place)
    return None


def row_of(web):
    """The row of the web: 1 for each pair that is a tie, 0 for each other one."""
    many, ties = web
    return tuple([int(pair in ties) for pair in pairs_of(many)])


def web_of(many, row):
    """The web of so many places with this row."""
    return (many, tuple([pair for pair, tied in zip(pairs_of(many), row) if tied == 1]))


def is_tied(web, place, mate):
    """Whether two places of the web are tied. (No place is tied to itself.)"""
    return in_order(place, mate) in web[1]


def neighbours(web, place):
    """The places to which a place of the web is tied, ascending."""
    return tuple([mate for mate in range(web[0]) if is_tied(web, place, mate)])


def numbers(web):
    """How many neighbours each place of the web has."""
    return tuple([len(neighbours(web, place)) for place in range(web[0])])


def odd_places(web):
    """The places of the web with an odd number of neighbours, ascending."""
    return tuple([place for place, number in enumerate(numbers(web)) if number % 2 == 1])


def opposite(web):
    """The web of the same places in which just the pairs without a tie are tied."""
    many, ties = web
    return (many, tuple([pair for pair in pairs_of(many) if pair not in ties]))
