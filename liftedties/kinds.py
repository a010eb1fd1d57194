"""Kinds of webs: places, how many ties, and which places are odd ([E])."""

from liftedties.bounds import MAX_PLACES
from liftedties.numbering import web_at
from liftedties.webs import is_place, odd_places


def kind_of(web):
    """The kind of the web."""
    return (web[0], len(web[1]), odd_places(web))


def top_count(many):
    """How many pairs there are of so many places."""
    return many * (many - 1) // 2


def has_kind_form(value):
    """Whether any value is a triple of a number of places, an integer and a tuple."""
    if type(value) is not tuple or len(value) != 3:
        return False
    many, count, odd = value
    return type(many) is int and 1 <= many <= MAX_PLACES and type(count) is int and type(odd) is tuple


def kind_error(value):
    """None for a kind, otherwise the first thing that is wrong with value."""
    if not has_kind_form(value):
        return "form"
    many, count, odd = value
    if not 0 <= count <= top_count(many):
        return "count"
    for place, item in enumerate(odd):
        if not is_place(many, item) or (place > 0 and item <= odd[place - 1]):
            return ("odd", place)
    return None


def has_webs(kind):
    """Whether some web is of the kind, by the rules of [E4]."""
    many, count, odd = kind
    lacking = top_count(many) - count
    # How many places are odd in the webs, and in their opposites, which have the ties that are lacking.
    here = len(odd)
    there = here if many % 2 == 1 else many - here
    return here % 2 == 0 and can_have(count, here) and can_have(lacking, there)


def can_have(count, odd):
    """Whether so many ties are enough for so many odd places, as far as [E4] bounds them from below."""
    # Webs without odd places hold a round of three ties or more, if they have ties.
    return 2 * count >= odd and (odd > 0 or count not in (1, 2))


def counts_for(many, odd):
    """All counts for which some web has these odd places, ascending."""
    return tuple([count for count in range(top_count(many) + 1) if has_webs((many, count, odd))])


def any_web(kind):
    """Any web of the kind. Unfit() if there is none."""
    return web_at(kind, 0)
