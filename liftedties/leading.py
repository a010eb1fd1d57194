"""Rows of deeds from one end to the other, for the other modules alone."""

from liftedties.deeds import done


def row_from_both(ends, steps, do_deeds):
    """The row of deeds from the first of both ends to the other one.

    steps tells, for two unlike ends, pairs (side, deed) that are to be done, in order, at one of
    them or the other; do_deeds does a tuple of deeds.
    """
    sides, rows = list(ends), [[], []]
    while sides[0] != sides[1]:
        told = steps(sides[0], sides[1])
        for side, deed in told:
            sides[side] = do_deeds(sides[side], (deed,))
            rows[side].append(deed)
    # The deeds of the other end lead to where both met; backwards they lead on from there.
    return tuple(rows[0] + rows[1][::-1])


def shortest_rows(start, goal, deeds_of):
    """Shortest rows of the deeds that deeds_of tells, from start, by the webs to which they lead.

    They go wave by wave: as far as goal, or as far as there are any if they do not come to it.
    """
    rows = {start: ()}
    newest = [start]
    while len(newest) > 0 and goal not in rows:
        reached = []
        for web in newest:
            for deed in deeds_of(web):
                there = done(web, (deed,))
                if there not in rows:
                    rows[there] = (*rows[web], deed)
                    reached.append(there)
        newest = reached
    return rows
