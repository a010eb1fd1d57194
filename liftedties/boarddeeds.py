"""Row deeds of boards ([I3])."""

from liftedties.errors import Barred
from liftedties.webs import is_place


def has_row_deed_form(board, value):
    """Whether any value is a quadruple of two rows and two columns of the board."""
    if type(value) is not tuple or len(value) != 4:
        return False
    rows, columns = len(board), len(board[0])
    return all([is_place(many, item) for many, item in zip((rows, rows, columns, columns), value)])


def row_deed_error(board, value):
    """None for a row deed of the board, otherwise the first thing that is wrong with value."""
    if not has_row_deed_form(board, value):
        return "form"
    a, d, j, k = value
    if a == d or j == k:
        return "alike"
    for column in (j, k):
        if board[a][column] == board[d][column]:
            return ("column", column)
    return None


def board_done(board, deeds):
    """The board behind all the row deeds. Barred(place) with the first one that cannot be done."""
    rows = [list(row) for row in board]
    for place, deed in enumerate(deeds):
        if row_deed_error(rows, deed) is not None:
            raise Barred(place)
        a, d, j, k = deed
        for column in (j, k):
            rows[a][column], rows[d][column] = rows[d][column], rows[a][column]
    return tuple([tuple(row) for row in rows])
