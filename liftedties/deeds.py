"""Places told apart, and deeds ([B])."""

from liftedties.errors import Barred
from liftedties.tables import hand_over, table_of, tells_apart, web_from
from liftedties.webs import in_order, is_place, pairs_of


def tellers_in(table, one, other):
    """The places of the table that tell two unlike places apart, ascending."""
    return [place for place in range(len(table)) if tells_apart(table, place, one, other)]


def tellers(web, one, other):
    """The places of the web that tell two unlike places apart, ascending."""
    return tuple(tellers_in(table_of(web), one, other))


def is_quadruple(many, value):
    """Whether any value is a quadruple of places."""
    return type(value) is tuple and len(value) == 4 and all([is_place(many, item) for item in value])


def error_in(table, value):
    """None for a deed of the table's web, otherwise the first thing that is wrong with value."""
    if not is_quadruple(len(table), value):
        return "form"
    if len(set(value)) < 4:
        return "alike"
    for at in (2, 3):
        if not tells_apart(table, value[at], value[0], value[1]):
            return ("teller", at)
    return None


def deed_error(web, value):
    """None for a deed of the web, otherwise the first thing that is wrong with value."""
    return error_in(table_of(web), value)


def is_lift_in(table, deed):
    """Whether the deed is a lift: both places that change sides leave the same one."""
    a, _, b, c = deed
    return table[a][b] == table[a][c]


def is_lift(web, deed):
    """Whether a deed of the web is a lift."""
    return is_lift_in(table_of(web), deed)


def done(web, deeds):
    """The web behind all the deeds. Barred(place) with the first one that cannot be done."""
    table = table_of(web)
    for place, deed in enumerate(deeds):
        if error_in(table, deed) is not None:
            raise Barred(place)
        hand_over(table, deed)
    return web_from(table)


def undone(deeds):
    """The row of deeds that leads back."""
    return deeds[::-1]


def least_naming(web, deed):
    """The least of the quadruples that do the same as a deed of the web."""
    sides, movers = in_order(deed[0], deed[1]), in_order(deed[2], deed[3])
    # In an exchange the two pairs may stand for each other; in a lift they may not.
    if is_lift(web, deed) or sides < movers:
        return sides + movers
    return movers + sides


def namings_in(table, one, other):
    """The least namings that begin with this pair, the lesser place first, ascending."""
    near = tellers_in(table, one, other)
    named = [(one, other, near[at], last) for at in range(len(near)) for last in near[at + 1:]]
    return [deed for deed in named if one < deed[2] or is_lift_in(table, deed)]


def all_in(table):
    """The least namings of all deeds of the table's web, ascending."""
    return [deed for one, other in pairs_of(len(table)) for deed in namings_in(table, one, other)]


def all_deeds(web):
    """The least namings of all deeds of the web, ascending."""
    return tuple(all_in(table_of(web)))


def all_lifts(web):
    """The least namings of all lifts of the web, ascending."""
    table = table_of(web)
    return tuple([deed for deed in all_in(table) if is_lift_in(table, deed)])
