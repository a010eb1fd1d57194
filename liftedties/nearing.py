"""Deeds that bring two webs nearer to one another ([C3])."""

from liftedties.joining import check_fit
from liftedties.tables import table_of, tells_apart


def nearer(one, other):
    """Any pair (side, deed) that makes the red and blue ties fewer, or None."""
    check_fit(one, other)
    tables = (table_of(one), table_of(other))
    # A deed that brings the webs nearer changes three red and blue ties or all four, so at
    # one of its places both ties that it changes: a red one and a blue one.
    for place in range(one[0]):
        for red in mates_apart(tables[0], tables[1], place):
            for blue in mates_apart(tables[1], tables[0], place):
                found = deed_between(tables, red, blue, place)
                if found is not None:
                    return found
    return None


def mates_apart(table, others, place):
    """The places to which place is tied in the table, but not in the other one."""
    return [mate for mate in range(len(table)) if table[place][mate] and not others[place][mate]]


def deed_between(tables, red, blue, place):
    """The pair (side, deed) that hands place and a further one over between red and blue, or None."""
    for mate in range(len(tables[0])):
        ties = [(table[mate][red], table[mate][blue]) for table in tables]
        if mate == place or ties[0] == ties[1]:
            continue
        for side in (0, 1):
            if tells_apart(tables[side], mate, red, blue):
                return (side, (red, blue, place, mate))
    return None
