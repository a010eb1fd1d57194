"""What the webs of a kind share ([G2], [G3])."""

from math import comb

from liftedties.errors import Unfit
from liftedties.sizes import size_of, size_table, sizes_for


def with_tie(kind, one, other):
    """How many webs of the kind have the tie of two unlike places."""
    many, count, odd = kind
    turned = tuple(sorted(set(odd) ^ {one, other}))
    sizes = (sizes_for(many, odd), sizes_for(many, turned))
    found = 0
    # By [G4], from no tie up: the webs of a kind of one tie fewer without the tie get it. With
    # each tie more the two places change between odd and even, and end as the kind has them.
    for fewer in range(count):
        found = sizes[(count - fewer) % 2][fewer] - found
    return found


def word_of(kind, one, other):
    """Whether "all" webs of the kind have the tie, "none" or "some". Unfit() if it has no web."""
    size = size_of(kind)
    if size == 0:
        raise Unfit()
    found = with_tie(kind, one, other)
    if found == size:
        return "all"
    return "some" if found > 0 else "none"


def numbers_at(kind, place):
    """For each number that the place has in webs of the kind, in how many of them, ascending."""
    many, count, odd = kind
    rows = size_table(many - 1)[many - 1]
    others = len([item for item in odd if item != place])
    parity = int(place in odd)
    told = [(number, ways_with(rows, others, count, number)) for number in range(parity, many, 2)]
    return tuple([(number, ways) for number, ways in told if ways > 0])


def ways_with(rows, odd, count, number):
    """How many webs of so many ties have a place with this number, besides those of rows, so many of them odd."""
    if not 0 <= count - number < len(rows[0]):
        return 0
    found = 0
    for some in range(odd + 1):
        more = number - some
        if 0 <= more <= len(rows) - 1 - odd:
            chosen = comb(odd, some) * comb(len(rows) - 1 - odd, more)
            found += chosen * rows[odd - some + more][count - number]
    return found
