"""What keeps two webs apart, and where they differ ([C1], [C2])."""

from liftedties.errors import Apart, Unfit
from liftedties.webs import odd_places


def check_fit(one, other):
    """Unfit() unless both webs have as many places."""
    if one[0] != other[0]:
        raise Unfit()


def odd_paper(odd_here, odd_there):
    """None if both tuples of odd places are one, otherwise ("odd", place) with the least place of just one."""
    unlike = sorted(set(odd_here) ^ set(odd_there))
    return ("odd", unlike[0]) if len(unlike) > 0 else None


def parting(one, other):
    """None if the webs are joined, otherwise what keeps them apart."""
    check_fit(one, other)
    if len(one[1]) != len(other[1]):
        return "ties"
    return odd_paper(odd_places(one), odd_places(other))


def check_joined(one, other):
    """Unfit() or Apart(paper) unless the webs are joined."""
    paper = parting(one, other)
    if paper is not None:
        raise Apart(paper)


def difference(one, other):
    """The red ties, of one alone, and the blue ones, of other alone."""
    check_fit(one, other)
    red = tuple([tie for tie in one[1] if tie not in other[1]])
    blue = tuple([tie for tie in other[1] if tie not in one[1]])
    return (red, blue)


def touches(piece, tie):
    """Whether the tie has a place in common with some tie of the piece."""
    return any([tie[0] in part or tie[1] in part for part in piece])


def pieces(one, other):
    """The pieces of the red and blue ties together, ascending."""
    red, blue = difference(one, other)
    found = []
    for tie in red + blue:
        joined = [tie]
        apart = []
        for piece in found:
            if touches(piece, tie):
                joined.extend(piece)
            else:
                apart.append(piece)
        found = [*apart, joined]
    return tuple(sorted([tuple(sorted(piece)) for piece in found]))
