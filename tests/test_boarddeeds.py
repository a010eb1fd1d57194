"""[I3], what [I6] says of row deeds, and [A2] (e) on boards."""

import copy
import unittest
from itertools import product

from liftedties import boarddeeds
from liftedties.boarddeeds import board_done, row_deed_error
from liftedties.errors import Barred, TiesError
from tests.boardsamples import (
    HIGH, LOW, SIZES, all_boards, behind, filled_board, flipped, is_row_deed, odd_in, row_deeds_of, striped_board, sums_in,
    wandered,
)
from tests.samples import FAR, any_values

GREAT = [striped_board(12, 12, step) for step in (3, 5, 7)]


def wanted_error(board, value):
    """What [I3] says of a quadruple of integers."""
    a, d, j, k = value
    if not (0 <= a < len(board) and 0 <= d < len(board) and 0 <= j < len(board[0]) and 0 <= k < len(board[0])):
        return "form"
    if a == d or j == k:
        return "alike"
    return next((("column", column) for column in (j, k) if board[a][column] == board[d][column]), None)


class RowDeedError(unittest.TestCase):

    def check(self, board, value, wanted):
        self.assertEqual(row_deed_error(board, value), wanted, (board, value))

    def test_the_examples_of_the_document(self):
        values = ((0, 1, 0, 2), (1, 0, 2, 0), (0, 1, 0, 3), [0, 1, 0, 2], (0, 0, 0, 2), (0, 1, 2, 2), (0, 1, 0, 1),
                  (0, 2, 2, 0), (0, True, 0, 2))
        self.assertEqual([row_deed_error(LOW, value) for value in values], [
            None, None, "form", "form", "alike", "alike", ("column", 1), ("column", 2), "form"])

    def test_all_quadruples_of_all_boards_of_up_to_six_cells(self):
        for rows, columns in SIZES:
            if rows * columns <= 6:
                quadruples = list(product(range(-1, rows + 1), range(-1, rows + 1), range(-1, columns + 1), range(-1, columns + 1)))
                for board in all_boards(rows, columns)[::1 if rows * columns <= 4 else 5]:
                    for value in quadruples:
                        self.check(board, value, wanted_error(board, value))

    def test_quadruples_of_greater_boards(self):
        for board in [striped_board(3, 3, 4), striped_board(4, 2, 3), striped_board(2, 12, 5), striped_board(12, 2, 5)]:
            for value in product(range(len(board)), range(len(board)), range(len(board[0])), range(len(board[0]))):
                self.check(board, value, wanted_error(board, value))
        for board in GREAT:
            for value in list(product(range(12), repeat=4))[::23]:
                self.check(board, value, wanted_error(board, value))

    def test_the_rows_and_the_columns_have_bounds_of_their_own(self):
        wide, high = striped_board(2, 5, 3), striped_board(5, 2, 3)
        for value in ((0, 2, 0, 1), (2, 0, 0, 1), (0, 1, 0, 5), (0, 1, 5, 0), (-1, 1, 0, 1), (0, -1, 0, 1), (0, 1, -1, 1),
                      (0, 1, 0, -1)):
            self.check(wide, value, "form")
        for value in ((0, 5, 0, 1), (5, 0, 0, 1), (0, 1, 0, 2), (0, 1, 2, 0), (0, 1, 0, FAR), (-FAR, 1, 0, 1)):
            self.check(high, value, "form")

    def test_one_row_or_one_column_have_no_row_deed(self):
        for many in (1, 2, 12):
            for item in (0, 1):
                self.check(filled_board(1, many, item), (0, 0, 0, many - 1), "alike")
                self.check(filled_board(many, 1, item), (0, many - 1, 0, 0), "alike")
            self.check(filled_board(1, many, 1), (0, 1, 0, 0), "form")
            self.check(filled_board(many, 1, 1), (0, 0, 0, 1), "form")

    def test_alike_comes_ahead_of_the_columns(self):
        board = filled_board(3, 3, 1)
        for value in ((0, 0, 0, 1), (0, 1, 2, 2), (2, 2, 2, 2), (1, 1, 0, 0)):
            self.check(board, value, "alike")
        self.check(board, (0, 1, 2, 1), ("column", 2))
        self.check(board, (0, 1, 1, 2), ("column", 1))

    def test_the_first_of_both_columns_in_the_order_of_the_quadruple(self):
        # The rows are unlike in the columns 1 and 4 alone.
        board = ((0, 1, 1, 0, 0), (0, 0, 1, 0, 1))
        self.check(board, (0, 1, 4, 1), None)
        self.check(board, (1, 0, 3, 2), ("column", 3))
        self.check(board, (1, 0, 2, 3), ("column", 2))
        self.check(board, (0, 1, 4, 0), ("column", 0))
        self.check(board, (0, 1, 0, 4), ("column", 0))

    def test_any_value(self):
        for value in any_values():
            self.check(LOW, value, "form")
            self.check(((0,),), value, "form")
            self.check(GREAT[0], value, "form")
            for at in range(4):
                deed = (0, 1, 0, 2)
                if type(value) is not int or not 0 <= value < 3:
                    self.check(LOW, deed[:at] + (value,) + deed[at + 1:], "form")
            self.check(LOW, (0, 1, 0, 2, value), "form")
            self.check(LOW, (value,), "form")

    def test_other_forms_and_lengths(self):
        for value in ([0, 1, 0, 2], (0, 1, 0), (0, 1, 0, 2, 0), (), ((0, 1), (0, 2)), ((0, 1, 0, 2),), "0102",
                      {0: 0, 1: 1, 2: 0, 3: 2}, (0, 1, [0], 2), (0, "1", 0, 2), (None, 1, 0, 2), (0, 1, 0, (2,))):
            self.check(LOW, value, "form")

    def test_true_and_false_are_no_rows_and_no_columns(self):
        for value in ((False, 1, 0, 2), (0, True, 0, 2), (0, 1, False, 2), (0, 2, 1, True), (True, True, True, True)):
            self.check(LOW, value, "form")

    def test_what_is_handed_in_is_not_changed(self):
        for value in ([0, 1, 0, 2], ([0], 1, 0, 2), {"x": [1]}):
            ahead = copy.deepcopy(value)
            row_deed_error(LOW, value)
            self.assertEqual(value, ahead)


class BoardDone(unittest.TestCase):

    def check_barred(self, board, deeds, place):
        with self.assertRaises(TiesError, msg=(board, deeds)) as caught:
            board_done(board, deeds)
        self.assertIs(type(caught.exception), Barred)
        self.assertEqual(caught.exception.place, place)

    def test_the_examples_of_the_document(self):
        self.assertEqual(board_done(LOW, ((0, 1, 0, 2),)), ((1, 1, 0), (0, 1, 1), (0, 0, 1)))
        self.assertEqual(board_done(LOW, ((0, 1, 0, 2), (1, 0, 2, 0))), LOW)
        self.assertEqual(board_done(LOW, ()), LOW)
        self.check_barred(LOW, ((0, 1, 0, 2), (0, 1, 0, 1)), 1)
        self.assertEqual(board_done(LOW, ((0, 1, 0, 2), (0, 2, 1, 2))), HIGH)
        self.assertEqual(board_done(((1, 0), (0, 1)), ((0, 1, 0, 1),)), ((0, 1), (1, 0)))

    def test_all_row_deeds_of_all_boards_of_up_to_nine_cells(self):
        for rows, columns in SIZES:
            for board in all_boards(rows, columns):
                self.assertEqual(board_done(board, ()), board)
                for deed in row_deeds_of(board):
                    there = board_done(board, (deed,))
                    self.assertEqual(there, behind(board, deed))
                    # What [I6] says: sums and odd rows stay, and the deed done twice takes itself back.
                    self.assertEqual((sums_in(there), odd_in(there)), (sums_in(board), odd_in(board)))
                    self.assertEqual(board_done(board, (deed, deed)), board)

    def test_a_row_deed_is_one_of_the_board_behind_it_and_of_the_flipped_one(self):
        for board in [LOW, HIGH] + GREAT:
            for deed in row_deeds_of(board)[::97 if len(board) > 3 else 1]:
                self.assertTrue(is_row_deed(board_done(board, (deed,)), deed))
                self.assertEqual(board_done(flipped(board), (deed,)), flipped(board_done(board, (deed,))))

    def test_what_is_returned_is_a_board(self):
        for board in [LOW] + GREAT:
            there = board_done(board, tuple(row_deeds_of(board)[:1]))
            self.assertEqual({type(there), *map(type, there)}, {tuple})
            self.assertEqual({type(item) for row in there for item in row}, {int})

    def test_rows_of_many_deeds(self):
        for board in GREAT:
            row, there = [], board
            for turn in range(60):
                deeds = row_deeds_of(there)
                row.append(deeds[turn * 7919 % len(deeds)])
                there = behind(there, row[-1])
            self.assertEqual(board_done(board, tuple(row)), there)
            self.assertEqual(there, wandered(board, 60))
            self.assertEqual(board_done(there, tuple(row[::-1])), board)
            self.assertEqual(board_done(board, tuple(row + row[::-1]) * 20), board)
            self.check_barred(board, tuple(row + row[::-1]) * 20 + ((0, 0, 0, 1),), 2400)

    def test_more_than_a_thousand_deeds(self):
        deed = (0, 1, 0, 2)
        self.assertEqual(board_done(LOW, (deed,) * 3000), LOW)
        self.assertEqual(board_done(LOW, (deed,) * 3001), behind(LOW, deed))
        self.check_barred(LOW, (deed,) * 2999 + ((0, 1, 0, 1), (9, 9, 9, 9)), 2999)

    def test_the_first_that_cannot_be_done(self):
        right = (0, 1, 0, 2)
        for deed in ((0, 1, 0, 3), (0, 3, 0, 2), (-1, 1, 0, 2), (0, 1, 0, -1), (0, 0, 0, 2), (0, 1, 2, 2), (0, 1, 0, 1),
                     (FAR, 1, 0, 2), (0, 1, -FAR, 2)):
            for ahead in range(4):
                self.check_barred(LOW, (right,) * ahead + (deed, right, deed), ahead)

    def test_a_deed_of_the_board_ahead_may_be_none_behind_another_one(self):
        first, last = (0, 1, 0, 2), (0, 2, 0, 1)
        self.assertFalse(is_row_deed(LOW, last))
        self.assertTrue(is_row_deed(LOW, (1, 2, 0, 1)))
        self.assertFalse(is_row_deed(behind(LOW, first), (1, 2, 0, 1)))
        self.check_barred(LOW, (first, (1, 2, 0, 1)), 1)
        self.check_barred(LOW, (last,), 0)

    def test_one_row_or_one_column(self):
        for board in (((0, 1, 1),), ((0,), (1,), (1,)), ((0,),), filled_board(1, 12, 1), filled_board(12, 1, 0)):
            self.assertEqual(board_done(board, ()), board)
            for deed in ((0, 0, 0, 0), (0, 1, 0, 0), (0, 0, 0, 1), (0, 1, 0, 1)):
                self.check_barred(board, (deed,), 0)

    def test_the_board_handed_in_is_not_changed(self):
        ahead = copy.deepcopy(LOW)
        deeds = ((0, 1, 0, 2), (0, 2, 1, 2))
        self.assertEqual(board_done(LOW, deeds), board_done(copy.deepcopy(LOW), copy.deepcopy(deeds)))
        self.assertEqual((LOW, deeds), (ahead, ((0, 1, 0, 2), (0, 2, 1, 2))))


class Calls(unittest.TestCase):

    def test_arguments_by_name(self):
        self.assertEqual(row_deed_error(value=(0, 1, 0, 1), board=LOW), ("column", 1))
        self.assertEqual(board_done(deeds=((0, 1, 0, 2),), board=LOW), behind(LOW, (0, 1, 0, 2)))

    def test_each_is_defined_in_its_file(self):
        for name in ("row_deed_error", "board_done"):
            self.assertEqual(getattr(boarddeeds, name).__module__, "liftedties.boarddeeds")


if __name__ == "__main__":
    unittest.main()
