"""How many webs a kind has ([F2], [F4])."""

from math import comb


def ways_on(rows, odd, odd_mates, other_mates, parity):
    """For each number of ties how many webs can be made of the places of rows and one place more.

    The one more has an odd number of ties if parity is 1, an even one if it is 0. Of the others
    so many are odd, counted with their ties to it; it may be tied to so many of the odd ones,
    and to so many that are not odd.
    """
    ways = [0] * (len(rows[0]) + odd_mates + other_mates)
    for some in range(odd_mates + 1):
        for more in range((parity + some) % 2, other_mates + 1, 2):
            chosen = comb(odd_mates, some) * comb(other_mates, more)
            # Without its tie to the one more each of these mates is odd just if it was not.
            for count, size in enumerate(rows[odd - some + more], start=some + more):
                ways[count] += chosen * size
    return ways


def row_with_place(rows, odd):
    """The sizes by counts for one place more than rows has, if so many of all the places are odd."""
    # Which places are odd does not matter: the one more is, if any is.
    parity = min(odd, 1)
    left = odd - parity
    return ways_on(rows, left, left, len(rows) - 1 - left, parity)


def size_table(many):
    """For each number of places up to many its rows: for each number of odd ones the sizes by counts."""
    # No kind is of no places, but the sizes of all others grow from the one web of none.
    table = [[[1]]]
    for places in range(many):
        table.append([row_with_place(table[places], odd) for odd in range(places + 2)])
    return table


def sizes_for(many, odd):
    """The sizes of the kinds of so many places with these odd ones, for each count from 0 on."""
    return tuple(row_with_place(size_table(many - 1)[many - 1], len(odd)))


def size_of(kind):
    """How many webs the kind has."""
    many, count, odd = kind
    return sizes_for(many, odd)[count]
