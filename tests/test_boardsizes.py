"""[I5] and what [I6] says of sizes: how many boards there are, and their numbers."""

import copy
import unittest
from itertools import combinations, product
from math import comb, prod

from liftedties import boardsizes
from liftedties.boards import board_error
from liftedties.boardsizes import board_at, board_number, board_size
from liftedties.errors import TiesError, Unfit
from tests.boardsamples import (
    LOW, SIZES, all_boards, by_lots, filled_board, flipped, odd_in, plain_size, reordered, striped_board, sums_in,
)
from tests.samples import FAR, all_odd, any_values

GREAT = [striped_board(12, 12, step) for step in (3, 4, 5, 7)] + [striped_board(12, 5, 3), striped_board(7, 12, 4)]
LOTS = [
    (12, (6,) * 12, ()), (12, (6,) * 12, tuple(range(12))), (12, (5, 6) * 6, (0, 3, 6, 7, 8, 11)), (12, (12,) * 12, ()),
    (12, (1, 3, 5, 7, 9, 11, 2, 4, 6, 8, 10, 12), (2, 9)), (11, (5,) * 11, (0, 4, 9)), (12, (6,), (1, 3, 5, 7, 9, 11)),
    (1, (0, 1) * 6, ()), (1, (1,) * 11, (0,)), (2, (1,) * 12, ()), (12, (1,) * 12, tuple(range(12))), (3, (2, 2), ()),
]


class Sizes(unittest.TestCase):

    def check_unfit(self, many, sums, odd, value):
        with self.assertRaises(TiesError, msg=(many, sums, odd, value)) as caught:
            board_at(many, sums, odd, value)
        self.assertIs(type(caught.exception), Unfit)


class BoardSize(Sizes):

    def test_the_examples_of_the_document(self):
        told = [(2, (1, 1), (0, 1)), (2, (1, 1), ()), (2, (1, 1), (0,)), (3, (2, 2), ()), (3, (2, 2), (0, 1)), (3, (1, 2), ())]
        self.assertEqual([board_size(*lot) for lot in told], [2, 2, 0, 3, 2, 0])

    def test_all_sums_and_odd_rows_of_boards_of_up_to_nine_cells(self):
        for rows, columns in SIZES:
            lots = by_lots(all_boards(rows, columns))
            for sums in product(range(rows + 1), repeat=columns):
                for odd in all_odd(rows):
                    self.assertEqual(board_size(rows, sums, odd), len(lots.get((sums, odd), ())), (rows, sums, odd))

    def test_great_sizes_by_another_count(self):
        for many, sums, odd in LOTS:
            size = board_size(many, sums, odd)
            self.assertEqual(size, plain_size(many, sums, odd))
            self.assertIs(type(size), int)
        for board in GREAT:
            self.assertEqual(board_size(len(board), sums_in(board), odd_in(board)), plain_size(len(board), sums_in(board), odd_in(board)))

    def test_the_greatest_is_told_exactly(self):
        # There are about 924 ** 12 boards with these sums, in 2 ** 11 lots of even numbers of odd rows.
        self.assertEqual(board_size(12, (6,) * 12, ()), 189118364028816100863315441352704)
        self.assertEqual(sum(comb(12, odd) * board_size(12, (6,) * 12, tuple(range(odd))) for odd in range(13)), 924 ** 12)

    def test_all_column_sums_of_four_rows(self):
        for columns in (1, 2, 5, 12):
            for start in range(5):
                sums = tuple((start + at * (start + 1)) % 5 for at in range(columns))
                for odd in all_odd(4):
                    self.assertEqual(board_size(4, sums, odd), plain_size(4, sums, odd))

    def test_one_row(self):
        for columns in range(1, 13):
            for sums in ((0,) * columns, (1,) * columns, (1,) + (0,) * (columns - 1)):
                odd = (0,) if sum(sums) % 2 else ()
                self.assertEqual(board_size(1, sums, odd), 1)
                self.assertEqual(board_size(1, sums, () if odd else (0,)), 0)

    def test_one_column(self):
        for many in range(1, 13):
            for ones in range(many + 1):
                odd = tuple(range(many - ones, many))
                self.assertEqual(board_size(many, (ones,), odd), 1)
                self.assertEqual(board_size(many, (ones,), () if ones == 1 else (0,)), 0)

    def test_sums_and_odd_rows_of_which_no_board_is(self):
        for many, sums, odd in ((3, (1, 2), ()), (12, (0,) * 12, (0, 1)), (12, (12,) * 12, (0, 11)), (12, (6,) * 12, (3,)),
                                (12, (12,) * 11, ()), (2, (1, 1), (0,)), (12, (1,), ()), (12, (1, 1), tuple(range(4))),
                                (5, (5, 5, 5), (0, 1, 2, 3)), (1, (0,), (0,)), (12, (11,), (0,))):
            self.assertEqual(board_size(many, sums, odd), 0)
            for value in (0, 1, -1, FAR, False, None):
                self.check_unfit(many, sums, odd, value)


class Numbers(Sizes):

    def check_round(self, many, sums, odd, number):
        """The board of the number is of these, and has the number; it is returned."""
        board = board_at(many, sums, odd, number)
        self.assertIsNone(board_error(board))
        self.assertEqual((len(board), sums_in(board), odd_in(board)), (many, sums, odd))
        self.assertEqual(board_number(board), number)
        return board

    def test_the_examples_of_the_document(self):
        self.assertEqual(board_at(2, (1, 1), (0, 1), 0), ((0, 1), (1, 0)))
        self.assertEqual(board_at(3, (2, 2), (), 2), ((1, 1), (1, 1), (0, 0)))
        self.assertEqual(board_number(((1, 0), (0, 1))), 1)
        self.assertEqual(board_number(board_at(3, (2, 2), (0, 1), 1)), 1)
        self.check_unfit(2, (1, 1), (0,), 0)
        self.check_unfit(2, (1, 1), (0, 1), True)

    def test_all_boards_of_up_to_nine_cells(self):
        for rows, columns in SIZES:
            for (sums, odd), lot in by_lots(all_boards(rows, columns)).items():
                self.assertEqual(lot, sorted(lot))
                for number, board in enumerate(lot):
                    self.assertEqual(board_at(rows, sums, odd, number), board)
                    self.assertEqual(board_number(board), number)
                self.check_unfit(rows, sums, odd, len(lot))
                self.check_unfit(rows, sums, odd, -1)

    def test_the_first_and_the_last_number_and_some_between(self):
        for many, sums, odd in LOTS:
            size = board_size(many, sums, odd)
            told = sorted({number for number in (0, 1, 2, size // 3, size // 2, size - 2, size - 1) if 0 <= number < size})
            boards = [self.check_round(many, sums, odd, number) for number in told]
            self.assertEqual(boards, sorted(boards))
            self.assertEqual(len(set(boards)), len(told))
            for value in (size, size + 1, -1, -size, FAR, -FAR):
                self.check_unfit(many, sums, odd, value)

    def test_boards_ascend_with_numbers_side_by_side(self):
        for many, sums, odd in LOTS[:6]:
            for number in (0, 10, board_size(many, sums, odd) // 7):
                if number + 5 < board_size(many, sums, odd):
                    boards = [board_at(many, sums, odd, number + more) for more in range(5)]
                    self.assertEqual(boards, sorted(boards))
                    self.assertEqual(len(set(boards)), 5)

    def test_each_board_is_that_of_its_number(self):
        for board in GREAT + [flipped(board) for board in GREAT] + [filled_board(12, 12, item) for item in (0, 1)]:
            number = board_number(board)
            self.assertTrue(0 <= number < board_size(len(board), sums_in(board), odd_in(board)))
            self.assertEqual(board_at(len(board), sums_in(board), odd_in(board), number), board)

    def test_the_last_board_is_the_first_flipped(self):
        # 1 exchanged with 0 turns the order round.
        for board in GREAT + [LOW]:
            size = board_size(len(board), sums_in(board), odd_in(board))
            self.assertEqual(board_number(flipped(board)), size - 1 - board_number(board))

    def test_any_value_that_is_no_number(self):
        for many, sums, odd in ((2, (1, 1), (0, 1)), (3, (2, 2), ()), (12, (6,) * 12, ()), (1, (0,), ())):
            for value in any_values():
                if type(value) is not int or not 0 <= value < board_size(many, sums, odd):
                    self.check_unfit(many, sums, odd, value)
            for value in (True, False, "0", (0,), [0], {0: 0}, None, board_at(many, sums, odd, 0)):
                self.check_unfit(many, sums, odd, value)

    def test_equal_calls_get_equal_results_and_change_nothing(self):
        for many, sums, odd in LOTS[:3]:
            ahead = copy.deepcopy((sums, odd))
            self.assertEqual(board_at(many, sums, odd, 77), board_at(many, *copy.deepcopy(ahead), 77))
            self.assertEqual(board_size(many, sums, odd), board_size(many, *copy.deepcopy(ahead)))
            self.assertEqual((sums, odd), ahead)
        value = [{"x": [1]}]
        self.check_unfit(2, (1, 1), (0, 1), value)
        self.assertEqual(value, [{"x": [1]}])


class WhatHolds(Sizes):

    def test_none_if_just_one_of_both_numbers_is_odd(self):
        for many in (1, 2, 3, 4, 12):
            for sums in ((0,), (1,), (1, 0, 1), (1, 1, 1, many), (many,) * 3, (many // 2,) * 12):
                for odd in all_odd(many)[::1 if many < 12 else 57]:
                    if (len(odd) + sum(sums)) % 2:
                        self.assertEqual(board_size(many, sums, odd), 0)

    def test_columns_and_rows_in_another_order(self):
        for many, sums, odd in LOTS:
            size = board_size(many, sums, odd)
            for turn in (1, 2, 5):
                self.assertEqual(board_size(many, sums[turn:] + sums[:turn], odd), size)
                self.assertEqual(board_size(many, sums[::-1], tuple(sorted((row + turn) % many for row in odd))), size)
        for lot in (LOW, GREAT[0]):
            rows, columns = range(len(lot))[::-1], range(len(lot[0]))[::-1]
            turned = reordered(lot, rows, columns)
            self.assertEqual(board_size(len(lot), sums_in(turned), odd_in(turned)), board_size(len(lot), sums_in(lot), odd_in(lot)))

    def test_one_exchanged_with_nought(self):
        for many, sums, odd in LOTS:
            others = tuple(row for row in range(many) if (row in odd) == (len(sums) % 2 == 0))
            self.assertEqual(board_size(many, tuple(many - ones for ones in sums), others), board_size(many, sums, odd))

    def test_the_sizes_over_all_odd_rows_make_a_product(self):
        for many in (1, 2, 3, 4, 5):
            for sums in ((1,), (0, many), (1, many - 1, 1), (many // 2,) * 12, tuple(at % (many + 1) for at in range(9))):
                told = sum(board_size(many, sums, odd) for odd in all_odd(many))
                self.assertEqual(told, prod(comb(many, ones) for ones in sums))

    def test_the_size_hangs_on_how_many_rows_are_odd(self):
        for odd in combinations(range(6), 2):
            self.assertEqual(board_size(6, (3, 2, 1, 4), odd), board_size(6, (3, 2, 1, 4), (0, 1)))


class Calls(unittest.TestCase):

    def test_arguments_by_name(self):
        self.assertEqual(board_size(odd=(0, 1), sums=(1, 1), many=2), 2)
        self.assertEqual(board_at(value=0, odd=(0, 1), sums=(1, 1), many=2), ((0, 1), (1, 0)))
        self.assertEqual(board_number(board=((1, 0), (0, 1))), 1)

    def test_each_is_defined_in_its_file(self):
        for name in ("board_size", "board_at", "board_number"):
            self.assertEqual(getattr(boardsizes, name).__module__, "liftedties.boardsizes")


if __name__ == "__main__":
    unittest.main()
