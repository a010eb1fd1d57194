"""Boards of noughts and ones ([I1], [I2])."""

from liftedties.bounds import MAX_COLUMNS, MAX_ROWS
from liftedties.errors import Unfit


def is_tuple_of_few(value, most):
    """Whether any value is a tuple of one item or more, but not of more than most."""
    return type(value) is tuple and 1 <= len(value) <= most


def has_board_form(value):
    """Whether any value is a tuple of as many tuples, with as many items, as a board may have."""
    return is_tuple_of_few(value, MAX_ROWS) and all([is_tuple_of_few(row, MAX_COLUMNS) for row in value])


def board_error(value):
    """None for a board, otherwise the first thing that is wrong with value."""
    if not has_board_form(value):
        return "form"
    for place, row in enumerate(value):
        if len(row) != len(value[0]):
            return ("long", place)
    for place, row in enumerate(value):
        for column, item in enumerate(row):
            if type(item) is not int or item not in (0, 1):
                return ("item", place, column)
    return None


def column_sums(board):
    """The sums of all columns of the board."""
    return tuple([sum(column) for column in zip(*board)])


def odd_rows(board):
    """The rows of the board with an odd sum, ascending."""
    return tuple([place for place, row in enumerate(board) if sum(row) % 2 == 1])


def check_sizes(one, other):
    """Unfit() unless both boards have as many rows and as many columns."""
    if len(one) != len(other) or len(one[0]) != len(other[0]):
        raise Unfit()


def cells_apart(one, other):
    """The cells at which both boards have unlike items, ascending."""
    check_sizes(one, other)
    cells = [(row, column) for row in range(len(one)) for column in range(len(one[0]))]
    return tuple([(row, column) for row, column in cells if one[row][column] != other[row][column]])
