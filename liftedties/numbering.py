"""The webs of a kind by their numbers ([F3])."""

from liftedties.errors import Unfit
from liftedties.sizes import size_of, size_table, ways_on
from liftedties.webs import odd_places, pairs_of


class Rest:
    """What is left to the pairs that are yet to come, while a web is gone through pair by pair.

    left is how many ties they have; wanted tells for each place whether it has an odd number of
    them (1) or an even one (0).
    """

    def __init__(self, many, count, odd):
        self.table = size_table(many - 1)
        self.left = count
        self.wanted = [int(place in odd) for place in range(many)]

    def ways_without(self, one, other):
        """How many webs have what the pairs ahead of this one have, and no tie at it."""
        later = self.wanted[one + 1:]
        mates = self.wanted[other + 1:]
        ways = ways_on(self.table[len(later)], sum(later), sum(mates), len(mates) - sum(mates), self.wanted[one])
        return ways[self.left] if self.left < len(ways) else 0

    def tie(self, one, other):
        """Take a tie at this pair off what is left."""
        self.left -= 1
        self.wanted[one] = 1 - self.wanted[one]
        self.wanted[other] = 1 - self.wanted[other]


def web_at(kind, value):
    """The web of the kind with any value as its number. Unfit() if it is no number of one."""
    if type(value) is not int or not 0 <= value < size_of(kind):
        raise Unfit()
    many, count, odd = kind
    rest, number, ties = Rest(many, count, odd), value, []
    for one, other in pairs_of(many):
        # All webs without this tie come ahead of all with it.
        ahead = rest.ways_without(one, other)
        if number >= ahead:
            number -= ahead
            rest.tie(one, other)
            ties.append((one, other))
    return (many, tuple(ties))


def web_number(web):
    """The number of the web among those of its kind."""
    many, ties = web
    rest, number = Rest(many, len(ties), odd_places(web)), 0
    for one, other in ties:
        number += rest.ways_without(one, other)
        rest.tie(one, other)
    return number
