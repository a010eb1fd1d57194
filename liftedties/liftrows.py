"""Rows of lifts alone ([D3] to [D5])."""

from liftedties.deeds import all_lifts, deed_error, done, is_lift, tellers
from liftedties.errors import NoLifts
from liftedties.joining import check_joined, parting
from liftedties.leading import shortest_rows
from liftedties.lonely import is_lonely
from liftedties.rowsbetween import row_between


def by_lifts(web, deed):
    """Any row of at most four lifts that leads where the deed leads. NoLifts() if there is none."""
    if is_lift(web, deed):
        return (deed,)
    row = by_helper(web, deed)
    # With a helper there are lifts; without one the web may be lonely.
    if row is None and is_lonely(web):
        raise NoLifts()
    if row is None:
        row = by_few_places(web, deed)
    if row is None:
        row = by_places_beyond(web, deed)
    return row


def by_helper(web, deed):
    """The two lifts that do an exchange by a third place that tells two of its places apart, or None."""
    for a, d, b, c in (deed, deed[2:] + deed[:2]):
        helpers = [place for place in tellers(web, a, d) if place not in (b, c)]
        if len(helpers) > 0:
            # The helper goes over with the one on its own side, and back with the other one.
            lifts = ((a, d, b, helpers[0]), (a, d, c, helpers[0]))
            return lifts if is_lift(web, lifts[0]) else lifts[::-1]
    return None


def places_beyond(web, deed):
    """The places of the web that are none of the deed, ascending."""
    return [place for place in range(web[0]) if place not in deed]


def lots_beyond(web, deed):
    """The pairs of places beyond the deed, or the only place beyond it."""
    beyond = places_beyond(web, deed)
    if len(beyond) == 1:
        return [(beyond[0],)]
    return [(u, w) for u in beyond for w in beyond if u < w]


def by_few_places(web, deed):
    """At most three lifts, among the deed's places and one or two beyond, that do an exchange, or None."""
    for lot in lots_beyond(web, deed):
        places = deed + lot
        part = part_of(web, places)
        if not is_lonely(part):
            # The part calls each place by where it stands among them; those of the deed come first.
            goal = done(part, ((0, 1, 2, 3),))
            row = shortest_rows(part, goal, all_lifts)[goal]
            return tuple([tuple([places[at] for at in lift]) for lift in row])
    return None


def part_of(web, places):
    """The web of these places and the ties between them, each called by where it stands among them."""
    called = {place: at for at, place in enumerate(places)}
    ends = [(called[one], called[other]) for one, other in web[1] if one in called and other in called]
    return (len(places), tuple(sorted([(min(tie), max(tie)) for tie in ends])))


def by_places_beyond(web, deed):
    """The four lifts that do an exchange with two places beyond, handed over to the deed's first and back."""
    beyond = places_beyond(web, deed)
    turns = [(x, deed[0], u, w) for x in beyond for u in beyond for w in beyond if u < w]
    lifts = [turn for turn in turns if deed_error(web, turn) is None and is_lift(web, turn)]
    row = by_helper(done(web, (lifts[0],)), deed)
    return (lifts[0], *row, lifts[0])


def lifts_join(one, other):
    """Whether some row of lifts leads from one to other."""
    return parting(one, other) is None and (one == other or not is_lonely(one))


def lift_row(one, other):
    """Any row of lifts from one to other, at most eight for each red or blue tie. NoLifts() if there is none."""
    check_joined(one, other)
    if one == other:
        return ()
    if is_lonely(one):
        raise NoLifts()
    web, row = one, []
    for deed in row_between(one, other):
        row.extend(by_lifts(web, deed))
        web = done(web, (deed,))
    return tuple(row)
