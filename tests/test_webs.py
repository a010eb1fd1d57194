"""[A3] to [A6] and [A8]: webs, their rows, neighbours, numbers, odd places and opposites."""

import copy
import unittest

from liftedties import webs
from liftedties.webs import is_tied, neighbours, numbers, odd_places, opposite, row_of, web_error, web_of
from tests.samples import FAR, PATH, WING, all_webs, any_values, empty_web, full_web, nested, pairs, striped_web

SMALL = [web for many in (1, 2, 3, 4) for web in all_webs(many)]
LARGE = [empty_web(12), full_web(12)] + [striped_web(many, step) for many in (6, 9, 11, 12) for step in (3, 5, 7)]
WRONG_TIES = [
    None, True, 0, 3, "01", "", (), (0,), (0, 1, 2), [0, 1], {0: 1, 1: 2}, (1, 0), (2, 1), (1, 1), (0, 0),
    (0, 4), (3, 4), (4, 5), (-1, 0), (-2, -1), (0, FAR), (-FAR, 1), (True, 2), (0, True), (False, 1), (False, True),
    ("0", "1"), (0, "1"), (None, 1), (0, None), ((0, 1), (0, 2)), (0, (1,)), ([0], 1), ((0, 1),), {}, [],
    nested(18, lambda value: (value,)),
]


class WebError(unittest.TestCase):

    def test_the_examples_of_the_document(self):
        values = (PATH, WING, (1, ()), (0, ()), (13, ()), [1, ()], (True, ()), (2, [(0, 1)]))
        self.assertEqual(
            [web_error(value) for value in values],
            [None, None, None, "form", "form", "form", "form", "form"],
        )
        lots = (
            ((0, 1), (1, 0)), ((0, 3),), ((0, 1), (1, 1)), ((0, 1), (0, 1)), ((1, 2), (0, 1)), ((1, 2), (0, 1), None),
        )
        self.assertEqual(
            [web_error((3, ties)) for ties in lots],
            [("tie", 1), ("tie", 0), ("tie", 1), ("order", 1), ("order", 1), ("tie", 2)],
        )

    def test_each_web_has_no_error(self):
        for web in SMALL + LARGE:
            self.assertIsNone(web_error(web), web)
        for many in range(1, 13):
            self.assertIsNone(web_error(empty_web(many)))
            self.assertIsNone(web_error(full_web(many)))

    def test_numbers_of_places_that_no_web_has(self):
        for many in (0, 13, 14, -1, -12, FAR, -FAR, True, False, None, "1", "", (), (1,), [1], {}, {1: 1}):
            self.assertEqual(web_error((many, ())), "form", many)
            self.assertEqual(web_error((many, ((0, 1),))), "form", many)

    def test_ties_that_are_no_tuple(self):
        for ties in ([], [(0, 1)], {}, {(0, 1): True}, None, "", "0-1", 0, True):
            self.assertEqual(web_error((2, ties)), "form", ties)

    def test_values_that_are_no_pair(self):
        for value in ((), (2,), (2, (), ()), (2, ((0, 1),), None), [2, ()], [2, ((0, 1),)], {2: (), 3: ()}, "2:", "2("):
            self.assertEqual(web_error(value), "form", value)

    def test_any_value_that_is_no_web(self):
        for value in any_values():
            self.assertEqual(web_error(value), "form", value)
            self.assertEqual(web_error((value, ())) is None, type(value) is int and 1 <= value <= 12, value)
            self.assertEqual(web_error((4, (value,))) is None, type(value) is tuple and value == (0, 1)
                             and all(type(item) is int for item in value), value)

    def test_wrong_ties_at_every_place(self):
        for wrong in WRONG_TIES:
            self.assertEqual(web_error((4, (wrong,))), ("tie", 0), wrong)
            self.assertEqual(web_error((4, ((0, 1), wrong))), ("tie", 1), wrong)
            self.assertEqual(web_error((4, ((0, 1), (0, 2), wrong, (2, 3)))), ("tie", 2), wrong)
            self.assertEqual(web_error((4, pairs(4) + (wrong,))), ("tie", 6), wrong)

    def test_the_first_of_two_wrong_ties_is_told(self):
        for wrong in WRONG_TIES:
            self.assertEqual(web_error((4, (wrong, wrong))), ("tie", 0), wrong)
            self.assertEqual(web_error((4, ((0, 3), wrong, None))), ("tie", 1), wrong)

    def test_a_wrong_tie_comes_ahead_of_a_wrong_order(self):
        for wrong in WRONG_TIES:
            self.assertEqual(web_error((4, ((1, 2), (0, 1), wrong))), ("tie", 2), wrong)
            self.assertEqual(web_error((4, ((0, 1), (0, 1), (0, 2), wrong))), ("tie", 3), wrong)

    def test_wrong_orders(self):
        told = {
            ((0, 1), (0, 1)): 1,
            ((0, 2), (0, 1)): 1,
            ((0, 1), (1, 2), (0, 2)): 2,
            ((0, 1), (0, 2), (0, 2)): 2,
            ((0, 1), (1, 2), (0, 3), (0, 2)): 2,
            ((2, 3), (1, 3), (1, 2), (0, 1)): 1,
            ((0, 1), (0, 3), (1, 2), (1, 3), (2, 3), (1, 3)): 5,
        }
        for ties, place in told.items():
            self.assertEqual(web_error((4, ties)), ("order", place), ties)

    def test_how_far_places_go(self):
        for many in range(2, 13):
            self.assertIsNone(web_error((many, ((0, many - 1),))))
            self.assertEqual(web_error((many, ((0, many),))), ("tie", 0))
            self.assertEqual(web_error((many, ((many - 1, many - 1),))), ("tie", 0))
        self.assertEqual(web_error((1, ((0, 0),))), ("tie", 0))
        self.assertEqual(web_error((1, ((0, 1),))), ("tie", 0))
        self.assertEqual(web_error((12, full_web(12)[1] * 15)), ("order", 66))

    def test_what_is_handed_in_is_not_changed(self):
        for value in [[4, [(0, 1)]], (4, ([0, 1],)), (4, ((1, 2), {0: [1]})), {"a": [1, (2, [3])]}]:
            ahead = copy.deepcopy(value)
            web_error(value)
            self.assertEqual(value, ahead)


class Rows(unittest.TestCase):

    def test_the_examples_of_the_document(self):
        self.assertEqual(row_of(PATH), (1, 0, 0, 1, 0, 1))
        self.assertEqual(row_of((1, ())), ())
        self.assertEqual(web_of(4, (1, 0, 0, 1, 0, 1)), PATH)
        self.assertEqual(web_of(2, (0,)), (2, ()))

    def test_each_pair_has_its_item(self):
        for web in SMALL + LARGE:
            row = row_of(web)
            self.assertIs(type(row), tuple)
            self.assertEqual(row, tuple(1 if pair in web[1] else 0 for pair in pairs(web[0])))
            self.assertEqual({type(item) for item in row} - {int}, set())

    def test_each_web_comes_back_from_its_row(self):
        for web in SMALL + LARGE:
            self.assertEqual(web_of(web[0], row_of(web)), web)
            self.assertIsNone(web_error(web_of(web[0], row_of(web))))

    def test_the_least_and_the_greatest_rows(self):
        self.assertEqual(web_of(1, ()), (1, ()))
        self.assertEqual(web_of(12, (0,) * 66), (12, ()))
        self.assertEqual(web_of(12, (1,) * 66), full_web(12))
        self.assertEqual(row_of(full_web(12)), (1,) * 66)
        self.assertEqual(web_of(12, (0,) * 65 + (1,)), (12, ((10, 11),)))


class Places(unittest.TestCase):

    def test_the_examples_of_the_document(self):
        self.assertEqual(
            (is_tied(PATH, 1, 0), is_tied(PATH, 0, 2), is_tied(PATH, 3, 3), neighbours(WING, 2), neighbours((1, ()), 0)),
            (True, False, False, (0, 1, 3, 4), ()),
        )
        self.assertEqual(
            (numbers(PATH), numbers(WING), odd_places(PATH), odd_places(WING), odd_places((2, ()))),
            ((1, 2, 2, 1), (2, 2, 4, 1, 1), (0, 3), (3, 4), ()),
        )
        self.assertEqual(opposite(PATH), (4, ((0, 2), (0, 3), (1, 3))))
        self.assertEqual(opposite((3, ())), (3, ((0, 1), (0, 2), (1, 2))))
        self.assertEqual(opposite(opposite(WING)), WING)

    def test_two_places_are_tied_by_their_tie_alone(self):
        for web in SMALL + LARGE:
            for place in range(web[0]):
                for mate in range(web[0]):
                    told = (place, mate) in web[1] or (mate, place) in web[1]
                    self.assertIs(is_tied(web, place, mate), told)

    def test_neighbours_numbers_and_odd_places(self):
        for web in SMALL + LARGE:
            near = tuple(
                tuple(mate for mate in range(web[0]) if (place, mate) in web[1] or (mate, place) in web[1])
                for place in range(web[0])
            )
            self.assertEqual(tuple(neighbours(web, place) for place in range(web[0])), near)
            self.assertEqual(numbers(web), tuple(len(mates) for mates in near))
            self.assertEqual(odd_places(web), tuple(at for at, mates in enumerate(near) if len(mates) % 2))

    def test_the_opposite_has_all_other_pairs(self):
        for web in SMALL + LARGE:
            told = opposite(web)
            self.assertIsNone(web_error(told))
            self.assertEqual(told, (web[0], tuple(pair for pair in pairs(web[0]) if pair not in web[1])))
            self.assertEqual(opposite(told), web)
        self.assertEqual(opposite((1, ())), (1, ()))
        self.assertEqual(opposite(full_web(12)), (12, ()))

    def test_what_always_holds_of_numbers(self):
        for web in SMALL + LARGE + all_webs(5)[::7]:
            many = web[0]
            self.assertEqual(sum(numbers(web)), 2 * len(web[1]))
            self.assertEqual(len(odd_places(web)) % 2, 0)
            self.assertEqual(numbers(opposite(web)), tuple(many - 1 - number for number in numbers(web)))
            others = tuple(place for place in range(many) if place not in odd_places(web))
            self.assertEqual(odd_places(opposite(web)), odd_places(web) if many % 2 else others)


class Calls(unittest.TestCase):

    def test_arguments_by_name(self):
        self.assertIsNone(web_error(value=PATH))
        self.assertEqual(row_of(web=PATH), row_of(PATH))
        self.assertEqual(web_of(row=(1, 0, 0, 1, 0, 1), many=4), PATH)
        self.assertIs(is_tied(mate=1, place=2, web=PATH), True)
        self.assertEqual(neighbours(place=1, web=PATH), (0, 2))
        self.assertEqual(numbers(web=PATH), (1, 2, 2, 1))
        self.assertEqual(odd_places(web=PATH), (0, 3))
        self.assertEqual(opposite(web=PATH), opposite(PATH))

    def test_true_is_not_one_in_a_later_call(self):
        self.assertIsNone(web_error((1, ())))
        self.assertEqual(web_error((True, ())), "form")
        self.assertIsNone(web_error((1, ())))
        self.assertEqual(web_error((2, ((0, True),))), ("tie", 0))
        self.assertIsNone(web_error((2, ((0, 1),))))
        self.assertEqual(web_error((2, ((False, 1),))), ("tie", 0))

    def test_each_is_defined_in_its_file(self):
        for name in ("web_error", "row_of", "web_of", "is_tied", "neighbours", "numbers", "odd_places", "opposite"):
            self.assertEqual(getattr(webs, name).__module__, "liftedties.webs")


if __name__ == "__main__":
    unittest.main()
