"""Rows of row deeds that lead from board to board ([I4])."""

from liftedties.boarddeeds import board_done
from liftedties.boards import check_sizes, column_sums, odd_rows
from liftedties.errors import Apart
from liftedties.joining import odd_paper
from liftedties.leading import row_from_both


def board_parting(one, other):
    """None if row deeds lead from one to other, otherwise what keeps the boards apart."""
    check_sizes(one, other)
    for column, (here, there) in enumerate(zip(column_sums(one), column_sums(other))):
        if here != there:
            return ("column", column)
    return odd_paper(odd_rows(one), odd_rows(other))


def board_row(one, other):
    """Any tuple of row deeds that leads from one to other, at most one for two cells apart."""
    paper = board_parting(one, other)
    if paper is not None:
        raise Apart(paper)
    return row_from_both((one, other), nearer_deeds, board_done)


def nearer_deeds(one, other):
    """The pair (side, deed), alone in a list, that takes two cells apart of such boards away, or more."""
    # It changes three cells apart or all four, so both cells of one of its columns: there one board
    # has 1 and 0 in its two rows, and the other board 0 and 1.
    for column in range(len(one[0])):
        gaps = [here[column] - there[column] for here, there in zip(one, other)]
        for a in rows_with(gaps, 1):
            for d in rows_with(gaps, -1):
                found = deed_by(column, (one, other), a, d)
                if found is not None:
                    return [found]
    return []


def rows_with(gaps, gap):
    """The rows that have this gap, ascending."""
    return [row for row, item in enumerate(gaps) if item == gap]


def deed_by(column, boards, a, d):
    """The pair (side, deed) by which two rows change at this column and where one is apart, or None."""
    for mate in range(len(boards[0][0])):
        items = [(board[a][mate], board[d][mate]) for board in boards]
        if mate == column or items[0] == items[1]:
            continue
        # A row is apart at this column. If both are, and alike, it parts them in neither board.
        for side in (0, 1):
            if items[side][0] != items[side][1]:
                return (side, (a, d, column, mate))
    return None
