"""The fewest deeds between webs of few places ([H])."""

from liftedties.bounds import MAX_SMALL
from liftedties.deeds import all_deeds, all_lifts
from liftedties.errors import TooMany
from liftedties.joining import check_fit, check_joined
from liftedties.leading import shortest_rows


def check_small(web):
    """TooMany(MAX_SMALL) if the web has too many places to go through all webs of its kind."""
    if web[0] > MAX_SMALL:
        raise TooMany(MAX_SMALL)


def check_ends(one, other):
    """Unfit(), TooMany(MAX_SMALL) or Apart(paper) unless both are joined webs of few places."""
    check_fit(one, other)
    check_small(one)
    check_joined(one, other)


def fewest_row(one, other):
    """Any row of deeds from one to other, as short as there is one."""
    check_ends(one, other)
    return shortest_rows(one, other, all_deeds)[other]


def fewest(one, other):
    """The least number of deeds that lead from one to other."""
    return len(fewest_row(one, other))


def fewest_lifts(one, other):
    """The least number of lifts that lead from one to other; None if no row of lifts does."""
    check_ends(one, other)
    rows = shortest_rows(one, other, all_lifts)
    return len(rows[other]) if other in rows else None


def farthest(web):
    """How many deeds the farthest webs that are joined with this one want, and how many such webs there are."""
    check_small(web)
    # None is no web: without a goal the waves go on until they have come to all webs.
    lengths = [len(row) for row in shortest_rows(web, None, all_deeds).values()]
    return (max(lengths), lengths.count(max(lengths)))
