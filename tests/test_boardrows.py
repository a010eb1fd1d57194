"""[I4], [A2] (d) and what [I6] says of boards that row deeds join."""

import copy
import unittest
from itertools import permutations

from liftedties import boardrows
from liftedties.boarddeeds import board_done
from liftedties.boardrows import board_parting, board_row
from liftedties.errors import Apart, TiesError, Unfit
from tests.boardsamples import (
    HIGH, LOW, SIZES, all_boards, apart, behind, by_lots, filled_board, flipped, led_by, odd_in, reordered, row_deeds_of,
    striped_board, sums_in, wandered,
)

GREAT = [striped_board(12, 12, step) for step in (3, 4, 5, 7)] + [striped_board(12, 7, 3), striped_board(5, 12, 4)]


def wanted_paper(one, other):
    """What [I4] says of two boards of one size."""
    sums, others = sums_in(one), sums_in(other)
    unlike = [column for column in range(len(sums)) if sums[column] != others[column]]
    if unlike:
        return ("column", unlike[0])
    odd = set(odd_in(one)) ^ set(odd_in(other))
    return ("odd", min(odd)) if odd else None


class Rows(unittest.TestCase):

    def check_row(self, one, other):
        """A right row of row deeds between boards that are joined."""
        self.assertIsNone(board_parting(one, other))
        row = board_row(one, other)
        self.assertEqual(led_by(one, row), other, (one, other, row))
        self.assertLessEqual(2 * len(row), len(apart(one, other)))
        self.assertEqual(row == (), one == other)
        return row

    def check_apart(self, one, other, paper):
        self.assertEqual(board_parting(one, other), paper)
        self.assertIs(type(board_parting(one, other)), tuple)
        with self.assertRaises(TiesError) as caught:
            board_row(one, other)
        self.assertIs(type(caught.exception), Apart)
        self.assertEqual(caught.exception.paper, paper)

    def check(self, one, other):
        paper = wanted_paper(one, other)
        if paper is None:
            self.check_row(one, other)
        else:
            self.check_apart(one, other, paper)


class BoardRow(Rows):

    def test_the_examples_of_the_document(self):
        self.assertIsNone(board_parting(LOW, HIGH))
        self.assertEqual(board_parting(LOW, HIGH[::-1]), ("odd", 0))
        self.assertEqual(board_parting(LOW, ((0, 1, 1),) * 3), ("column", 0))
        self.assertEqual(board_parting(((1, 0), (0, 1)), ((1, 1), (0, 0))), ("odd", 0))
        self.assertLess(len(self.check_row(LOW, HIGH)), 4)
        self.assertEqual(board_row(LOW, LOW), ())
        self.assertEqual(len(board_row(((1, 0), (0, 1)), ((0, 1), (1, 0)))), 1)
        self.check_apart(LOW, HIGH[::-1], ("odd", 0))

    def test_all_joined_boards_of_up_to_nine_cells(self):
        for rows, columns in SIZES:
            for lot in by_lots(all_boards(rows, columns)).values():
                for one in lot:
                    for other in lot:
                        self.check_row(one, other)

    def test_all_boards_of_up_to_six_cells(self):
        for rows, columns in SIZES:
            if rows * columns <= 6:
                told = all_boards(rows, columns)
                for one in told:
                    for other in told:
                        self.check(one, other)

    def test_boards_of_up_to_nine_cells_that_are_not_joined(self):
        for rows, columns in SIZES:
            told = all_boards(rows, columns)
            for one in told[::13]:
                for other in told[::7]:
                    self.check(one, other)

    def test_no_row_deeds_lead_to_other_boards(self):
        # What row deeds reach is found by doing all of them, one behind another.
        for rows, columns in ((2, 2), (2, 3), (3, 2), (2, 4), (4, 2), (3, 3)):
            for lot in by_lots(all_boards(rows, columns)).values():
                found, newest = {lot[0]}, [lot[0]]
                while newest:
                    newest = {behind(board, deed) for board in newest for deed in row_deeds_of(board)} - found
                    found |= newest
                self.assertEqual(found, set(lot))

    def test_boards_of_twelve_rows_and_columns(self):
        for start in GREAT + [flipped(board) for board in GREAT]:
            for turns in (1, 2, 5, 20):
                other = wandered(start, turns)
                self.check_row(start, other)
                self.check_row(other, start)

    def test_boards_of_twelve_that_are_far_apart(self):
        # Each cell is apart: a board of as many ones as noughts in all lines, and the flipped one.
        chequered = tuple(tuple((row + column) % 2 for column in range(12)) for row in range(12))
        halves = tuple(tuple(int((row < 6) == (column < 6)) for column in range(12)) for row in range(12))
        for board in (chequered, halves):
            self.assertEqual(len(apart(board, flipped(board))), 144)
            self.check_row(board, flipped(board))
            for order in ((1, 0, 3, 2, 5, 4, 7, 6, 9, 8, 11, 10), tuple(range(12))[::-1], (5, 0, 7, 2, 9, 4, 11, 6, 1, 8, 3, 10)):
                self.check_row(board, reordered(board, order, range(12)))
        self.check_row(chequered, halves)
        self.check_row(halves, chequered)

    def test_rows_that_are_all_even_change_places(self):
        board = tuple(tuple(int(column in (row % 4 * 3, row % 4 * 3 + 1)) for column in range(12)) for row in range(12))
        for times, more in ((1, 1), (1, 6), (5, 2), (11, 5)):
            self.check_row(board, reordered(board, [(row * times + more) % 12 for row in range(12)], range(12)))

    def test_one_row_or_one_column(self):
        for many in range(1, 13):
            for board in (striped_board(1, many, 3), striped_board(many, 1, 3), filled_board(1, many, 1)):
                self.assertEqual(board_row(board, board), ())
        self.check_apart(((1, 0),), ((0, 1),), ("column", 0))
        self.check_apart(((0, 1, 0),), ((0, 0, 0),), ("column", 1))
        self.check_apart(((1,), (0,)), ((0,), (1,)), ("odd", 0))
        self.check_apart(((0,), (1,), (0,)), ((0,), (0,), (1,)), ("odd", 1))

    def test_equal_calls_get_equal_results_and_change_nothing(self):
        for one, other in ((LOW, HIGH), (GREAT[0], wandered(GREAT[0], 9))):
            ahead = copy.deepcopy((one, other))
            self.assertEqual(board_row(one, other), board_row(*copy.deepcopy(ahead)))
            self.assertEqual((one, other), ahead)


class BoardParting(Rows):

    def test_the_first_column_of_unlike_sums_comes_ahead_of_all_odd_rows(self):
        one = filled_board(12, 12, 0)
        for column in range(12):
            for row in range(12):
                other = tuple(tuple(int(place == row and at >= column) for at in range(12)) for place in range(12))
                self.check_apart(one, other, ("column", column))
                self.check_apart(other, one, ("column", column))

    def test_the_least_row_that_is_odd_in_just_one(self):
        board = striped_board(12, 12, 4)
        for a in range(12):
            for d in range(a + 1, 12):
                column = next((at for at in range(12) if board[a][at] != board[d][at]), None)
                if column is not None:
                    items = [list(row) for row in board]
                    items[a][column], items[d][column] = items[d][column], items[a][column]
                    self.check_apart(board, tuple(map(tuple, items)), ("odd", a))

    def test_boards_of_unlike_sizes_are_unfit_ahead_of_all(self):
        some = [filled_board(rows, columns, item) for rows in (1, 2, 11, 12) for columns in (1, 2, 12) for item in (0, 1)]
        for one in some + [LOW]:
            for other in some + [LOW]:
                if (len(one), len(one[0])) != (len(other), len(other[0])):
                    for call in (board_parting, board_row):
                        with self.assertRaises(TiesError) as caught:
                            call(one, other)
                        self.assertIs(type(caught.exception), Unfit)


class WhatHolds(Rows):

    def test_as_long_as_boards_differ_a_deed_takes_two_cells_apart_away(self):
        for rows, columns in SIZES:
            for lot in by_lots(all_boards(rows, columns)).values():
                for one in lot[::3]:
                    for other in lot:
                        if one != other:
                            gone = [len(apart(one, other)) - len(apart(behind(some, deed), last))
                                    for some, last in ((one, other), (other, one)) for deed in row_deeds_of(some)]
                            self.assertGreaterEqual(max(gone), 2)

    def test_rows_backwards_lead_back(self):
        for one, other in ((LOW, HIGH), (GREAT[1], wandered(GREAT[1], 7)), (GREAT[4], wandered(GREAT[4], 30))):
            row = self.check_row(one, other)
            self.assertEqual(led_by(other, row[::-1]), one)
            self.assertEqual(board_done(one, row + row[::-1]), one)

    def test_lines_in_another_order_stay_joined(self):
        for rows in permutations(range(3)):
            for columns in permutations(range(3)):
                self.check_row(reordered(LOW, rows, columns), reordered(HIGH, rows, columns))
        self.check_row(flipped(LOW), flipped(HIGH))


class Calls(unittest.TestCase):

    def test_arguments_by_name(self):
        self.assertEqual(board_parting(other=HIGH[::-1], one=LOW), ("odd", 0))
        self.assertEqual(board_row(other=HIGH, one=LOW), board_row(LOW, HIGH))

    def test_each_is_defined_in_its_file(self):
        for name in ("board_parting", "board_row"):
            self.assertEqual(getattr(boardrows, name).__module__, "liftedties.boardrows")


if __name__ == "__main__":
    unittest.main()
