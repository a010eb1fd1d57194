"""Tables: webs in a form in which ties are looked up and changed at once.

A table is a list of lists: table[one][other] tells whether these two places are tied. It
lives only while a function works; what the package takes and returns are webs.
"""

from liftedties.webs import pairs_of


def table_of(web):
    """A new table with the ties of the web."""
    many, ties = web
    table = [[False] * many for _ in range(many)]
    for one, other in ties:
        table[one][other] = table[other][one] = True
    return table


def web_from(table):
    """The web of which this is the table."""
    many = len(table)
    return (many, tuple([(one, other) for one, other in pairs_of(many) if table[one][other]]))


def tells_apart(table, place, one, other):
    """Whether place, a third place, is tied to just one of both."""
    return place not in (one, other) and table[place][one] != table[place][other]


def hand_over(table, deed):
    """Do the deed in the table: its last two places change sides between the first two."""
    a, d, b, c = deed
    for side in (a, d):
        for place in (b, c):
            table[side][place] = table[place][side] = not table[side][place]
