"""[F3] and [F4]: the webs of a kind by their numbers."""

import copy
import unittest

from liftedties import numbering
from liftedties.errors import TiesError, Unfit
from liftedties.numbering import web_at, web_number
from liftedties.sizes import size_of
from liftedties.webs import web_error
from tests.samples import (
    FAR, PATH, WING, all_kinds, all_webs, any_values, by_kinds, empty_web, full_web, kinds_by_numbers, odd_in, opposed,
    plain_size, ring, row_in, striped_web, wandered, web_with,
)

FEW = {kind: sorted(webs, key=row_in) for many in (1, 2, 3, 4, 5) for kind, webs in all_kinds(many).items()}


class Numbers(unittest.TestCase):

    def check_unfit(self, kind, value):
        with self.assertRaises(TiesError, msg=(kind, value)) as caught:
            web_at(kind, value)
        self.assertIs(type(caught.exception), Unfit)

    def check_round(self, kind, number):
        """The web of the number is of the kind, and has the number; it is returned."""
        web = web_at(kind, number)
        self.assertIsNone(web_error(web))
        self.assertEqual((web[0], len(web[1]), odd_in(web)), kind)
        self.assertEqual(web_number(web), number)
        return web

    def test_the_examples_of_the_document(self):
        self.assertEqual([web_at((4, 3, ()), number)[1] for number in range(4)], [
            ((1, 2), (1, 3), (2, 3)), ((0, 2), (0, 3), (2, 3)), ((0, 1), (0, 3), (1, 3)), ((0, 1), (0, 2), (1, 2))])
        self.assertEqual(web_at((4, 2, (0, 3)), 0), (4, ((0, 2), (2, 3))))
        self.assertEqual(web_at((4, 2, (0, 1, 2, 3)), 2), (4, ((0, 1), (2, 3))))
        self.assertEqual(web_at((1, 0, ()), 0), (1, ()))
        some = (PATH, (4, ((0, 3), (1, 2))), (5, ((0, 2), (0, 4), (1, 3), (1, 4), (2, 3))), (12, ()))
        self.assertEqual([web_number(web) for web in some], [1, 0, 2, 0])
        self.check_unfit((4, 3, ()), 4)
        self.check_unfit((4, 1, ()), 0)
        self.check_unfit((1, 0, ()), False)

    def test_all_webs_of_up_to_five_places(self):
        for kind, webs in FEW.items():
            for number, web in enumerate(webs):
                self.assertEqual(web_at(kind, number), web)
                self.assertEqual(web_number(web), number)

    def test_webs_of_six_places(self):
        for kind, webs in by_kinds(all_webs(6)).items():
            webs = sorted(webs, key=row_in)
            for number in (*range(0, len(webs), 37), len(webs) - 1):
                self.assertEqual(web_at(kind, number), webs[number])
                self.assertEqual(web_number(webs[number]), number)

    def test_the_first_and_the_last_number_of_up_to_twelve_places(self):
        for many in range(6, 13):
            for kind in kinds_by_numbers(many)[::7]:
                size = plain_size(many, kind[1], len(kind[2]))
                for number in sorted({0, 1, size // 2, size - 1}):
                    if 0 <= number < size:
                        self.check_round(kind, number)
                    else:
                        self.check_unfit(kind, number)

    def test_rows_ascend_with_the_numbers(self):
        for kind in ((12, 33, ()), (12, 20, (0, 3, 7, 11)), (11, 30, (2, 9)), (9, 17, (0, 4, 5, 8)), (12, 60, (0, 1))):
            size = size_of(kind)
            numbers = sorted({*range(5), *range(size - 5, size), *(size * part // 17 for part in range(17))})
            webs = [self.check_round(kind, number) for number in numbers]
            rows = [row_in(web) for web in webs]
            self.assertEqual(rows, sorted(rows))
            self.assertEqual(len(set(rows)), len(rows))

    def test_each_web_has_the_web_of_its_number(self):
        some = [striped_web(12, step) for step in (3, 4, 5, 7)] + [web_with(12, ring(range(12))), WING, PATH]
        for web in some + [opposed(web) for web in some] + [wandered(web, 30) for web in some[:4]]:
            kind = (web[0], len(web[1]), odd_in(web))
            number = web_number(web)
            self.assertTrue(0 <= number < size_of(kind))
            self.assertEqual(web_at(kind, number), web)

    def test_no_tie_and_all_ties(self):
        for many in range(1, 13):
            for web in (empty_web(many), full_web(many)):
                kind = (many, len(web[1]), odd_in(web))
                self.assertEqual((web_at(kind, 0), web_number(web)), (web, 0))
                self.check_unfit(kind, 1)

    def test_numbers_beyond(self):
        for kind in ((4, 3, ()), (5, 5, ()), (12, 33, ()), (1, 0, ()), (12, 66, tuple(range(12))), (12, 20, (0, 11))):
            for value in (-1, -2, size_of(kind), size_of(kind) + 1, FAR, -FAR, -size_of(kind)):
                self.check_unfit(kind, value)
            web_at(kind, size_of(kind) - 1)

    def test_kinds_without_webs(self):
        for kind in ((4, 1, ()), (4, 0, (2,)), (1, 0, (0,)), (12, 66, ()), (12, 33, (0,)), (12, 65, ()), (11, 54, ()),
                     (12, 5, tuple(range(12))), (2, 0, (0, 1)), (12, 0, tuple(range(12)))):
            for value in (0, 1, -1, False, True, None, FAR, *any_values()):
                self.check_unfit(kind, value)

    def test_all_kinds_without_webs_of_few_places(self):
        for kind, webs in FEW.items():
            self.check_unfit(kind, len(webs))
            self.check_unfit(kind, -1)

    def test_any_value_that_is_no_number(self):
        for kind in ((4, 3, ()), (1, 0, ()), (12, 33, ())):
            for value in any_values():
                if type(value) is not int:
                    self.check_unfit(kind, value)
            for value in (True, False, "0", "1", (0,), [0], {0: 0}, {}, (), None, Unfit(), web_at(kind, 0)):
                self.check_unfit(kind, value)

    def test_true_is_not_one_and_false_is_not_nought(self):
        self.assertEqual(web_at((4, 3, ()), 1)[1], ((0, 2), (0, 3), (2, 3)))
        self.check_unfit((4, 3, ()), True)
        self.check_unfit((4, 3, ()), False)

    def test_equal_calls_get_equal_results_and_change_nothing(self):
        for kind, value in (((4, 3, ()), 2), ((12, 33, (0, 11)), 10 ** 12), ((9, 17, (0, 4, 5, 8)), 99)):
            ahead = copy.deepcopy(kind)
            web = web_at(kind, value)
            self.assertEqual(web_at(copy.deepcopy(kind), value), web)
            self.assertEqual((web_number(web), web_number(copy.deepcopy(web))), (value, value))
            self.assertEqual(kind, ahead)
        value = [{"x": [1]}]
        self.check_unfit((4, 3, ()), value)
        self.assertEqual(value, [{"x": [1]}])


class Calls(unittest.TestCase):

    def test_arguments_by_name(self):
        self.assertEqual(web_at(value=0, kind=(4, 2, (0, 3))), (4, ((0, 2), (2, 3))))
        self.assertEqual(web_number(web=PATH), 1)

    def test_each_is_defined_in_its_file(self):
        for name in ("web_at", "web_number"):
            self.assertEqual(getattr(numbering, name).__module__, "liftedties.numbering")


if __name__ == "__main__":
    unittest.main()
