"""How many boards have the same column sums and odd rows, and their numbers ([I5])."""

from math import comb

from liftedties.boards import column_sums, odd_rows
from liftedties.errors import Unfit


def with_column(ways, ones):
    """The ways to fill the columns of ways and one more, in which so many rows have 1.

    In ways stands, for each number, in how many ways columns can be filled so that their odd
    rows are just some lot of so many rows: which rows these are does not matter.
    """
    rows = len(ways) - 1
    found = []
    for odd in range(rows + 1):
        total = 0
        # Some of the ones stand in odd rows, which are not odd without them; the others in rows
        # that are odd without them.
        for some in range(max(0, odd + ones - rows), min(odd, ones) + 1):
            total += comb(odd, some) * comb(rows - odd, ones - some) * ways[odd + ones - 2 * some]
        found.append(total)
    return found


def no_columns(rows):
    """The ways to fill no column of so many rows: one, and none of the rows is odd."""
    return [1] + [0] * rows


def board_size(many, sums, odd):
    """How many boards of so many rows have these column sums and odd rows."""
    ways = no_columns(many)
    for ones in sums:
        ways = with_column(ways, ones)
    return ways[len(odd)]


def ways_from(rows, sums):
    """For each column the ways to fill it and all behind it, in a row and in so many rows below.

    They are told by the odd rows below. Behind the last column there is the one way to fill none.
    """
    told = [no_columns(rows)]
    for ones in sums[::-1]:
        noughts, others = with_column(told[-1], ones), with_column(told[-1], ones - 1)
        told.append([some + more for some, more in zip(noughts, others)])
    return told[::-1]


class RowFilling:
    """A row of a board that is filled cell by cell; those above it are filled.

    left tells how many ones each column has left, for this row and those below. Whether this row
    is odd need not be counted: it is as all these ones together and the rows below let it be.
    """

    def __init__(self, many, row, left, odd):
        self.left = list(left)
        self.odd_below = len([place for place in odd if place > row])
        self.coming = ways_from(many - 1 - row, left)

    def ways_with_nought(self, column):
        """How many boards have what was filled so far, and 0 at this column of the row."""
        ways = self.coming[column + 1]
        for ones in self.left[:column + 1]:
            ways = with_column(ways, ones)
        return ways[self.odd_below]

    def put_one(self, column):
        """Fill this column of the row with 1."""
        self.left[column] -= 1


def board_at(many, sums, odd, value):
    """The board of these with any value as its number. Unfit() if it is no number of one."""
    if type(value) is not int or not 0 <= value < board_size(many, sums, odd):
        raise Unfit()
    number, left, board = value, sums, []
    for row in range(many):
        filling, items = RowFilling(many, row, left, odd), []
        for column in range(len(sums)):
            # All boards with 0 here come ahead of all with 1.
            ahead = filling.ways_with_nought(column)
            items.append(int(number >= ahead))
            if number >= ahead:
                number -= ahead
                filling.put_one(column)
        board.append(tuple(items))
        left = filling.left
    return tuple(board)


def board_number(board):
    """The number of the board among those with its rows, column sums and odd rows."""
    number, left = 0, column_sums(board)
    for row, items in enumerate(board):
        filling = RowFilling(len(board), row, left, odd_rows(board))
        for column, item in enumerate(items):
            if item == 1:
                number += filling.ways_with_nought(column)
                filling.put_one(column)
        left = filling.left
    return number
