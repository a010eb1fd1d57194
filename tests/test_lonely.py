"""[D1], [D2] and [D6]: webs in which no lift can be done."""

import copy
import unittest
from itertools import permutations

from liftedties import lonely
from liftedties.lonely import is_lonely
from liftedties.webs import opposite
from tests.samples import (
    LEFT, LOW, NET, PATH, WING, all_webs, behind, by_kinds, deeds_of, empty_web, full_web, lifts_of, opposed, pairs,
    renamed, ring, striped_web, web_with,
)

RING = (5, ((0, 1), (0, 4), (1, 2), (2, 3), (3, 4)))
THREE_PAIRS = (6, ((0, 1), (2, 3), (4, 5)))
PATHS = {renamed(PATH, names) for names in permutations(range(4))}
RINGS = {renamed(RING, names) for names in permutations(range(5))}


def at_most_one_neighbour(web):
    ends = [place for tie in web[1] for place in tie]
    return len(ends) == len(set(ends))


def told_lonely(web):
    """What [D2] says."""
    return at_most_one_neighbour(web) or at_most_one_neighbour(opposed(web)) or web in PATHS or web in RINGS


def with_one_turned(web):
    """All webs with one tie more or fewer."""
    return [(web[0], tuple(sorted(set(web[1]) ^ {pair}))) for pair in pairs(web[0])]


class IsLonely(unittest.TestCase):

    def check(self, web, wanted):
        self.assertIs(is_lonely(web), wanted, web)

    def test_the_examples_of_the_document(self):
        some = (PATH, LOW, RING, THREE_PAIRS, opposite(THREE_PAIRS), (3, ((0, 1), (0, 2))), (4, ((0, 1), (0, 2))), (12, ()))
        self.assertEqual([is_lonely(web) for web in some], [True, False, True, True, True, True, False, True])

    def test_all_webs_of_up_to_five_places(self):
        for many in (1, 2, 3, 4, 5):
            for web in all_webs(many):
                self.check(web, told_lonely(web))
                self.check(web, lifts_of(web) == [])

    def test_fewer_than_four_places(self):
        for many in (1, 2, 3):
            for web in all_webs(many):
                self.check(web, True)

    def test_webs_of_six_places(self):
        for web in all_webs(6)[::5]:
            self.check(web, told_lonely(web))

    def test_ties_that_touch_nowhere_and_one_tie_more_or_fewer(self):
        for many in range(4, 13):
            for ties in range(many // 2 + 1):
                web = (many, tuple((2 * at, 2 * at + 1) for at in range(ties)))
                for some in [web, *with_one_turned(web)]:
                    self.check(some, told_lonely(some))
                    self.check(opposed(some), told_lonely(some))
                self.check(web, True)

    def test_two_ties_at_one_place_are_enough(self):
        for many in range(4, 13):
            self.check((many, ((0, 1), (0, 2))), False)
            self.check((many, ((0, many - 1), (1, many - 1))), False)

    def test_all_paths_of_four_and_rings_of_five_and_one_tie_more_or_fewer(self):
        self.assertEqual((len(PATHS), len(RINGS)), (12, 12))
        for web in sorted(PATHS) + sorted(RINGS):
            self.check(web, True)
            for some in with_one_turned(web):
                self.check(some, told_lonely(some))

    def test_paths_and_rings_among_other_numbers_of_places(self):
        for many in range(5, 13):
            self.check((many, PATH[1]), False)
            self.check(opposed((many, PATH[1])), False)
            self.check(web_with(many, ring(range(many))), many == 5)
            self.check(opposed(web_with(many, ring(range(many)))), many == 5)
        for many in range(6, 13):
            self.check((many, RING[1]), False)
        for many in (6, 7, 12):
            self.check(web_with(many, [(place, place + 1) for place in range(many - 1)]), False)
        self.check((4, ring(range(4))), True)

    def test_no_tie_and_all_ties(self):
        for many in range(1, 13):
            self.check(empty_web(many), True)
            self.check(full_web(many), True)

    def test_webs_with_lifts(self):
        for web in (NET, LEFT, opposed(LEFT), WING, striped_web(12, 3), striped_web(12, 7), (5, ((0, 1), (2, 3), (2, 4)))):
            self.check(web, False)


class WhatHolds(unittest.TestCase):

    def test_a_web_is_lonely_just_if_its_opposite_is(self):
        for web in all_webs(4) + all_webs(5)[::3] + [striped_web(12, 5), THREE_PAIRS]:
            self.assertIs(is_lonely(opposed(web)), is_lonely(web))

    def test_all_webs_of_a_kind_are_lonely_or_none(self):
        for many in (1, 2, 3, 4, 5):
            for lot in by_kinds(all_webs(many)).values():
                self.assertEqual(len({is_lonely(web) for web in lot}), 1)

    def test_no_exchange_makes_a_web_lonely(self):
        for web in all_webs(5)[::7]:
            for deed in deeds_of(web):
                self.assertIs(is_lonely(behind(web, deed)), is_lonely(web))

    def test_places_called_otherwise(self):
        for web in (PATH, LOW, RING, THREE_PAIRS, opposed(THREE_PAIRS), WING, striped_web(7, 5)):
            for names in list(permutations(range(web[0])))[::7]:
                self.assertIs(is_lonely(renamed(web, names)), is_lonely(web))

    def test_equal_calls_get_equal_results_and_change_nothing(self):
        for web in (PATH, LOW):
            ahead = copy.deepcopy(web)
            self.assertIs(is_lonely(web), is_lonely(copy.deepcopy(web)))
            self.assertEqual(web, ahead)

    def test_arguments_by_name(self):
        self.assertIs(is_lonely(web=PATH), True)

    def test_it_is_defined_in_its_file(self):
        self.assertEqual(lonely.is_lonely.__module__, "liftedties.lonely")


if __name__ == "__main__":
    unittest.main()
