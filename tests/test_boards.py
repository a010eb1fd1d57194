"""[I1] and [I2]: boards, their sums, and where they are apart."""

import copy
import unittest

from liftedties import boards
from liftedties.boards import board_error, cells_apart, column_sums, odd_rows
from liftedties.errors import TiesError, Unfit
from tests.boardsamples import (
    HIGH, LOW, SIZES, all_boards, apart, cells_of, filled_board, flipped, odd_in, reordered, striped_board, sums_in,
)
from tests.samples import FAR, any_values

GREAT = [striped_board(12, 12, step) for step in (3, 4, 5, 7)]
EDGES = [filled_board(rows, columns, item) for rows in (1, 2, 12) for columns in (1, 2, 12) for item in (0, 1)]


def with_item(board, row, column, item):
    """The board with another item in this cell."""
    items = board[row][:column] + (item,) + board[row][column + 1:]
    return board[:row] + (items,) + board[row + 1:]


class BoardError(unittest.TestCase):

    def check(self, value, wanted):
        told = board_error(value)
        self.assertEqual(told, wanted)
        self.assertIs(type(told), type(wanted))

    def test_the_examples_of_the_document(self):
        values = (LOW, ((0,),), (), ((),), [(0,)], (0, 1), ((0, 1), (0,), (2, 1)), ((0, 1), (2, True)), ((0, True),))
        self.assertEqual([board_error(value) for value in values], [
            None, None, "form", "form", "form", "form", ("long", 1), ("item", 1, 0), ("item", 0, 1)])

    def test_boards(self):
        for rows, columns in SIZES:
            for board in all_boards(rows, columns)[::3]:
                self.check(board, None)
        for board in GREAT + EDGES:
            self.check(board, None)

    def test_one_to_twelve_rows_and_columns(self):
        for rows in range(16):
            for columns in range(16):
                right = 1 <= rows <= 12 and 1 <= columns <= 12
                self.check(filled_board(rows, columns, 1), None if right else "form")
        self.check(((0,),) * 3999, "form")
        self.check(((0,) * 3999,), "form")

    def test_a_list_is_no_tuple(self):
        for value in ([[0, 1], [1, 0]], [(0, 1), (1, 0)], ((0, 1), [1, 0]), ([0, 1], (1, 0)), ((0, 1), {0: 1, 1: 0}),
                      ((0, 1), "01"), ("01", "10"), ((0, 1), None), (None,), ((0, 1), 1)):
            self.check(value, "form")

    def test_a_row_that_is_none_comes_ahead_of_all(self):
        for value in (((0, 1), (0,), []), ((0, 2), (0,), None), ((2,), (0, 1), ()), ((0,), (0, 1), (0,) * 13),
                      ((7,), "x"), (((0, 1),), 0)):
            self.check(value, "form")

    def test_a_row_of_another_length(self):
        for rows in (2, 3, 12):
            for columns in (2, 3, 12):
                board = filled_board(rows, columns, 0)
                for row in range(1, rows):
                    for items in ((0,) * (columns - 1), (1,) * (columns + 1) if columns < 12 else (1,)):
                        self.check(board[:row] + (items,) + board[row + 1:], ("long", row))
        self.check(((0,), (0, 1), (0, 1)), ("long", 1))
        self.check(((0, 1), (0, 1), (0, 1, 0), (0,)), ("long", 2))

    def test_a_row_of_another_length_comes_ahead_of_all_wrong_items(self):
        for items in ((2, 2), (None, "x"), (True, False), ((), [])):
            self.check((items, (0, 1), (0,)), ("long", 2))
            self.check((items, (0,)), ("long", 1))
            self.check(((0,), items), ("long", 1))

    def test_wrong_items_at_each_cell(self):
        for board in (LOW, ((0,),), ((0, 1),), ((1,), (0,))):
            for row, column in cells_of(board):
                for item in [2, -1, FAR, -FAR, True, False, None, "", "0", "1", (), (0,), [], [1], {}, Unfit()]:
                    self.check(with_item(board, row, column, item), ("item", row, column))

    def test_the_first_wrong_item_by_rows(self):
        cells = [(row, column) for row in range(3) for column in range(3)]
        for first in cells:
            for last in cells:
                if first < last:
                    board = with_item(with_item(HIGH, *first, True), *last, 2)
                    self.check(board, ("item", *first))
        self.check(with_item(with_item(GREAT[0], 11, 11, 9), 11, 10, None), ("item", 11, 10))

    def test_any_value(self):
        told = [((0, 1), (1,)), ((0, True), (1, 0)), ((0, 1), (1, 2))]
        for value in any_values():
            if value not in told:
                rows = type(value) is tuple and [type(row) is tuple and len(row) for row in value]
                self.check(value, ("item", 0, 0) if rows in ([1], [2]) else "form")
            for row, column in ((0, 0), (1, 2), (2, 1)):
                if type(value) is not int or value not in (0, 1):
                    self.check(with_item(LOW, row, column, value), ("item", row, column))
            if type(value) is not tuple:
                self.check(value, "form")
                self.check((value,), "form")
                self.check(((0, 1), value), "form")
        self.assertEqual([board_error(value) for value in told], [("long", 1), ("item", 0, 1), ("item", 1, 1)])
        self.check((0,) * 4000, "form")

    def test_what_is_handed_in_is_not_changed(self):
        for value in ([[0, 1], [1, 0]], ([0, 1], [2]), ((0, [1]), (1, {"x": [0]}))):
            ahead = copy.deepcopy(value)
            board_error(value)
            self.assertEqual(value, ahead)


class Told(unittest.TestCase):

    def check_unfit(self, one, other):
        with self.assertRaises(TiesError, msg=(one, other)) as caught:
            cells_apart(one, other)
        self.assertIs(type(caught.exception), Unfit)

    def test_the_examples_of_the_document(self):
        self.assertEqual((column_sums(LOW), column_sums(HIGH)), ((1, 2, 2), (1, 2, 2)))
        self.assertEqual((odd_rows(LOW), odd_rows(HIGH)), ((2,), (2,)))
        self.assertEqual(cells_apart(LOW, HIGH), ((0, 0), (0, 1), (1, 0), (1, 2), (2, 1), (2, 2)))
        self.assertEqual(cells_apart(LOW, LOW), ())
        self.check_unfit(LOW, LOW[:2])

    def test_sums_and_odd_rows(self):
        boards_told = [board for rows, columns in SIZES for board in all_boards(rows, columns)] + GREAT + EDGES
        for board in boards_told:
            self.assertEqual(column_sums(board), sums_in(board))
            self.assertEqual(odd_rows(board), odd_in(board))
            self.assertEqual((type(column_sums(board)), type(odd_rows(board))), (tuple, tuple))

    def test_the_greatest_and_the_least(self):
        self.assertEqual((column_sums(filled_board(12, 12, 1)), odd_rows(filled_board(12, 11, 1))), ((12,) * 12, tuple(range(12))))
        self.assertEqual((column_sums(((0,),)), odd_rows(((0,),)), odd_rows(((1,),))), ((0,), (), (0,)))
        self.assertEqual((column_sums(((1,),) * 12), odd_rows(((1, 0),) * 12)), ((12,), tuple(range(12))))

    def test_cells_apart(self):
        for rows, columns in ((1, 1), (1, 3), (3, 1), (2, 2), (2, 3)):
            for one in all_boards(rows, columns):
                for other in all_boards(rows, columns):
                    self.assertEqual(cells_apart(one, other), apart(one, other))
        for one in GREAT:
            for other in GREAT:
                self.assertEqual(cells_apart(one, other), apart(one, other))
            self.assertEqual(cells_apart(one, flipped(one)), tuple(sorted(cells_of(one))))

    def test_boards_of_unlike_sizes_are_unfit(self):
        some = [filled_board(rows, columns, 0) for rows in (1, 2, 3, 11, 12) for columns in (1, 2, 3, 11, 12)]
        for one in some + [LOW, GREAT[0]]:
            for other in some + [LOW, GREAT[0]]:
                if (len(one), len(one[0])) != (len(other), len(other[0])):
                    self.check_unfit(one, other)
                else:
                    self.assertEqual(cells_apart(one, other), apart(one, other))

    def test_rows_and_columns_in_another_order(self):
        for board in (LOW, HIGH, GREAT[1]):
            turned = reordered(board, range(len(board))[::-1], range(len(board[0]))[::-1])
            self.assertEqual(column_sums(turned), column_sums(board)[::-1])
            self.assertEqual(odd_rows(turned), tuple(sorted(len(board) - 1 - row for row in odd_rows(board))))

    def test_equal_calls_get_equal_results(self):
        for board in (LOW, GREAT[0]):
            same = copy.deepcopy(board)
            for call in (board_error, column_sums, odd_rows):
                self.assertEqual(call(board), call(same))
            self.assertEqual(cells_apart(board, flipped(same)), cells_apart(same, flipped(board)))


class Calls(unittest.TestCase):

    def test_arguments_by_name(self):
        self.assertEqual((board_error(value=LOW), board_error(value=0)), (None, "form"))
        self.assertEqual((column_sums(board=LOW), odd_rows(board=LOW)), ((1, 2, 2), (2,)))
        self.assertEqual(cells_apart(other=HIGH, one=LOW), cells_apart(LOW, HIGH))

    def test_each_is_defined_in_its_file(self):
        for name in ("board_error", "column_sums", "odd_rows", "cells_apart"):
            self.assertEqual(getattr(boards, name).__module__, "liftedties.boards")


if __name__ == "__main__":
    unittest.main()
