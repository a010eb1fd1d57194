"""Boards that several tests need. Nothing here imports the functions under test."""

from itertools import product
from math import comb

LOW, HIGH = ((0, 1, 1), (1, 1, 0), (0, 0, 1)), ((1, 0, 1), (0, 1, 1), (0, 1, 0))
SIZES = [(rows, columns) for rows in range(1, 10) for columns in range(1, 10) if rows * columns <= 9]


def all_boards(rows, columns):
    """Every board of so many rows and columns, ascending."""
    return list(product(product((0, 1), repeat=columns), repeat=rows))


def striped_board(rows, columns, step, less=0):
    """A board with an irregular lot of ones, another one for each step."""
    return tuple(
        tuple(int((row * 7 + column * 5 + row * column + less) % step < 2) for column in range(columns))
        for row in range(rows)
    )


def filled_board(rows, columns, item):
    return ((item,) * columns,) * rows


def sums_in(board):
    return tuple(sum(row[column] for row in board) for column in range(len(board[0])))


def odd_in(board):
    return tuple(row for row in range(len(board)) if sum(board[row]) % 2)


def by_lots(boards):
    """Lists of the boards with the same column sums and odd rows, by these."""
    lots = {}
    for board in boards:
        lots.setdefault((sums_in(board), odd_in(board)), []).append(board)
    return lots


def cells_of(board):
    return {(row, column): item for row, items in enumerate(board) for column, item in enumerate(items)}


def apart(one, other):
    """The cells at which both boards have unlike items, ascending."""
    here, there = cells_of(one), cells_of(other)
    return tuple(sorted(cell for cell in here if here[cell] != there[cell]))


def is_row_deed(board, deed):
    """Whether this is a quadruple of two unlike rows and two unlike columns in which they are unlike."""
    if type(deed) is not tuple or [type(item) for item in deed] != [int] * 4:
        return False
    a, d, j, k = deed
    if not (0 <= a < len(board) and 0 <= d < len(board) and 0 <= j < len(board[0]) and 0 <= k < len(board[0])):
        return False
    return a != d and j != k and board[a][j] != board[d][j] and board[a][k] != board[d][k]


def row_deeds_of(board):
    """All row deeds of the board, ascending."""
    rows, columns = range(len(board)), range(len(board[0]))
    return [deed for deed in product(rows, rows, columns, columns) if is_row_deed(board, deed)]


def behind(board, deed):
    """The board behind a row deed: the four cells get the other one of both items."""
    a, d, j, k = deed
    return tuple(
        tuple(1 - item if row in (a, d) and column in (j, k) else item for column, item in enumerate(items))
        for row, items in enumerate(board)
    )


def led_by(board, row):
    """The board behind a tuple of row deeds, each of them let in the board ahead of it; None if it is no such tuple."""
    if type(row) is not tuple:
        return None
    for deed in row:
        if not is_row_deed(board, deed):
            return None
        board = behind(board, deed)
    return board


def wandered(board, turns):
    """The board behind so many row deeds, an irregular lot of them; the board must have one."""
    for turn in range(turns):
        deeds = row_deeds_of(board)
        board = behind(board, deeds[turn * 7919 % len(deeds)])
    return board


def flipped(board):
    """The board with 1 and 0 exchanged."""
    return tuple(tuple(1 - item for item in row) for row in board)


def reordered(board, rows, columns):
    """The board with its rows and its columns in these orders."""
    return tuple(tuple(board[row][column] for column in columns) for row in rows)


def plain_size(many, sums, odd):
    """How many boards have so many rows, these column sums and odd rows, by signs in the place of parities.

    Over all lots of rows, the product of the signs that a board gives them, -1 for each 1 in a row
    of the lot, is as often 1 as the parities ask, and cancels out otherwise.
    """
    total = 0
    for lot in range(many + 1):
        odd_here = sum((-1) ** some * comb(len(odd), some) * comb(many - len(odd), lot - some) for some in range(lot + 1))
        boards = 1
        for ones in sums:
            boards *= sum((-1) ** some * comb(lot, some) * comb(many - lot, ones - some) for some in range(ones + 1))
        total += odd_here * boards
    assert total % 2 ** many == 0
    return total // 2 ** many
