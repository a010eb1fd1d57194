"""Rows of deeds that lead from web to web ([C4])."""

from liftedties.deeds import done
from liftedties.errors import Barred
from liftedties.joining import check_fit, check_joined, difference, pieces
from liftedties.leading import row_from_both
from liftedties.nearing import nearer
from liftedties.tables import table_of, tells_apart
from liftedties.webs import numbers


def many_apart(one, other):
    """How many red and blue ties there are together."""
    red, blue = difference(one, other)
    return len(red) + len(blue)


def row_between(one, other):
    """Any tuple of deeds that leads from one to other, at most two for each red or blue tie."""
    check_joined(one, other)
    return row_from_both((one, other), next_deeds, done)


def next_deeds(one, other):
    """Pairs (side, deed), to be done in order, that bring unlike joined webs nearer or make it possible."""
    found = nearer(one, other)
    if found is not None:
        return [found]
    return deeds_around(one, other)


def deeds_around(one, other):
    """At most three pairs (side, deed) for joined webs that no deed brings nearer; behind them one does.

    The letters are those of [C5]: p has red ties to b and c, which are handed over to a
    place q that has a blue tie.
    """
    red, blue = difference(one, other)
    parts = pieces(one, other)
    p, b, c = fork_of([tie for tie in piece_with_more(parts, red) if tie in red])
    places = places_of(piece_with_more(parts, blue))
    table = table_of(one)
    ready = [q for q in places if table[q][b] == table[q][c]]
    if len(ready) == 0:
        return deeds_with_turn(table, places, p, b, c)
    return [handing(table, p, ready[0], b, c)]


def deeds_with_turn(table, places, p, b, c):
    """The same if each of the places q is tied to just one of b and c."""
    near = [q for q in places if tells_apart(table, q, b, p)]
    if len(near) < 2:
        # Each place tells p from b or from c, and there are three of them or more.
        return deeds_with_turn(table, places, p, c, b)
    # Done in both webs the turn leaves their difference as it is, and ties q to b just if to c.
    turn = (b, p, near[0], near[1])
    return [(0, turn), (1, turn), handing(table, p, near[0], b, c)]


def handing(table, p, q, b, c):
    """The pair (side, deed) by which b and c change sides between p and q, for a q tied to b just if to c."""
    # In one p has ties to give away, which q must not have; in other p lacks those that q has.
    return (int(table[q][c]), (p, q, b, c))


def piece_with_more(parts, ties):
    """The first of the pieces of which more than half are among these ties."""
    return [piece for piece in parts if 2 * len([tie for tie in piece if tie in ties]) > len(piece)][0]


def places_of(ties):
    """The places of these ties, ascending."""
    return sorted({place for tie in ties for place in tie})


def fork_of(ties):
    """A place with two of these ties or more, and two places to which they lead."""
    forks = [[place, *mates_by(ties, place)] for place in places_of(ties)]
    return [fork for fork in forks if len(fork) > 2][0][:3]


def mates_by(ties, place):
    """The places to which these ties lead from place."""
    return [one + other - place for one, other in ties if place in (one, other)]


def row_holds(one, other, value):
    """Whether any value is a tuple of deeds that row_between may return."""
    check_fit(one, other)
    if type(value) is not tuple or len(value) > 2 * many_apart(one, other):
        return False
    try:
        return done(one, value) == other
    except Barred:
        return False


def row_bounds(one, other):
    """How many deeds a row between the webs has at least, as [C4] tells, and how many it may have."""
    check_joined(one, other)
    apart = many_apart(one, other)
    gaps = sum([abs(here - there) for here, there in zip(numbers(one), numbers(other))])
    return (max(quarter(apart), quarter(gaps)), 2 * apart)


def quarter(number):
    """A quarter of the number, rounded up."""
    return (number + 3) // 4
