"""[H] and [A2] (e): the fewest deeds and lifts between webs of few places."""

import copy
import unittest
from itertools import permutations

from liftedties import waves
from liftedties.deeds import done, undone
from liftedties.errors import Apart, TiesError, TooMany, Unfit
from liftedties.liftrows import lifts_join
from liftedties.rowsbetween import row_bounds
from liftedties.waves import farthest, fewest, fewest_lifts, fewest_row
from tests.samples import (
    HIGH, LOW, PATH, WING, all_webs, behind, by_kinds, deeds_of, empty_web, full_web, has_lift, joined_pairs, led_by,
    lifts_of, odd_in, opposed, renamed, waves_from,
)

CROSSED = (4, ((0, 2), (1, 2), (1, 3)))
THREE, MOVED = (5, ((0, 1), (0, 4), (2, 3))), (5, ((0, 2), (0, 4), (1, 3)))
RING = (5, ((0, 1), (0, 4), (1, 2), (2, 3), (3, 4)))
STAR = (5, ((0, 2), (0, 3), (1, 3), (1, 4), (2, 4)))
SMALL = [web for many in (1, 2, 3, 4) for web in all_webs(many)]
WEBS = SMALL + all_webs(5)
DEEDS = {web: {behind(web, deed) for deed in deeds_of(web)} for web in WEBS}
LIFTS = {web: {behind(web, deed) for deed in lifts_of(web)} for web in WEBS}
CALLS = (fewest, fewest_row, fewest_lifts)
CHOSEN = [web for at, web in enumerate(all_webs(5)) if at % 9 == 0] + [THREE, MOVED, RING, STAR, WING]


class Waves(unittest.TestCase):

    def check_error(self, wanted, call, *webs):
        """The call raises an error of just this class; it is returned."""
        with self.assertRaises(TiesError, msg=(call.__name__, webs)) as caught:
            call(*webs)
        self.assertIs(type(caught.exception), wanted, (call.__name__, webs))
        return caught.exception

    def check_from(self, one):
        """All that is told of one and each web that is joined with it."""
        far, lifted = waves_from(one, DEEDS), waves_from(one, LIFTS)
        for other in far:
            self.assertEqual(fewest(one, other), far[other], (one, other))
            row = fewest_row(one, other)
            self.assertEqual((led_by(one, row), len(row)), (other, far[other]), (one, other, row))
            self.assertEqual(fewest_lifts(one, other), lifted.get(other), (one, other))
        most = max(far.values())
        self.assertEqual(farthest(one), (most, list(far.values()).count(most)))


class Fewest(Waves):

    def test_the_examples_of_the_document(self):
        self.assertEqual([fewest(LOW, HIGH), fewest(PATH, CROSSED), fewest(THREE, MOVED), fewest(LOW, LOW)], [1, 1, 1, 0])
        self.assertEqual(fewest_row(LOW, LOW), ())
        told = [fewest_lifts(LOW, HIGH), fewest_lifts(PATH, CROSSED), fewest_lifts(THREE, MOVED), fewest_lifts(PATH, PATH)]
        self.assertEqual(told, [1, None, 2, 0])
        self.assertEqual(led_by(THREE, fewest_row(THREE, MOVED)), MOVED)
        self.assertEqual(len(fewest_row(THREE, MOVED)), 1)
        self.assertEqual(self.check_error(Apart, fewest, LOW, PATH).paper, ("odd", 0))
        self.assertEqual(self.check_error(TooMany, fewest, (6, ()), (6, ())).limit, 5)
        self.check_error(Unfit, fewest, (6, ()), (5, ()))
        self.assertEqual((fewest(RING, STAR), fewest_lifts(RING, STAR)), (3, None))

    def test_all_webs_of_up_to_four_places(self):
        for one in SMALL:
            self.check_from(one)

    def test_chosen_webs_of_five_places(self):
        for one in CHOSEN:
            self.check_from(one)

    def test_webs_of_up_to_three_places_are_led_to_themselves_alone(self):
        for web in [web for many in (1, 2, 3) for web in all_webs(many)]:
            self.assertEqual((fewest(web, web), fewest_row(web, web), fewest_lifts(web, web)), (0, (), 0))

    def test_lonely_webs_are_led_by_lifts_to_themselves_alone(self):
        for one in (PATH, RING, (5, ((0, 1), (2, 3))), opposed((5, ((0, 1), (2, 3)))), (4, ((0, 1), (2, 3))), (5, ())):
            self.assertFalse(has_lift(one))
            for other in waves_from(one, DEEDS):
                self.assertEqual(fewest_lifts(one, other), 0 if one == other else None)
            self.assertEqual(type(fewest_lifts(one, one)), int)

    def test_equal_calls_get_equal_results_and_change_nothing(self):
        for one, other in ((RING, STAR), (LOW, HIGH), (THREE, MOVED)):
            ahead = copy.deepcopy((one, other))
            for call in CALLS:
                self.assertEqual(call(one, other), call(*copy.deepcopy(ahead)))
            self.assertEqual(farthest(one), farthest(copy.deepcopy(one)))
            self.assertEqual((one, other), ahead)


class Farthest(Waves):

    def test_the_examples_of_the_document(self):
        self.assertEqual([farthest(web) for web in (LOW, PATH, (5, ()), RING)], [(1, 3), (1, 1), (0, 1), (3, 1)])

    def test_all_webs_of_five_places(self):
        for web in all_webs(5)[::3]:
            far = list(waves_from(web, DEEDS).values())
            self.assertEqual(farthest(web), (max(far), far.count(max(far))))

    def test_up_to_three_places(self):
        for web in [web for many in (1, 2, 3) for web in all_webs(many)]:
            self.assertEqual(farthest(web), (0, 1))

    def test_it_is_nought_for_the_only_web_of_a_kind_alone(self):
        for webs in by_kinds(WEBS).values():
            for web in webs[::4]:
                self.assertEqual(farthest(web)[0] == 0, len(webs) == 1)
        self.assertEqual(farthest((5, ())), farthest(full_web(5)))


class InOrder(Waves):

    def test_webs_of_unlike_numbers_of_places_are_unfit_ahead_of_all(self):
        webs = [empty_web(many) for many in range(1, 13)] + [full_web(many) for many in (2, 5, 6, 12)]
        for one in webs:
            for other in webs:
                if one[0] != other[0]:
                    for call in CALLS:
                        self.check_error(Unfit, call, one, other)

    def test_six_places_and_more_are_too_many_joined_or_not(self):
        for many in range(6, 13):
            webs = [empty_web(many), full_web(many), (many, ((0, 1), (0, 2))), (many, ((0, 1), (1, 2)))]
            for one in webs:
                self.assertEqual(self.check_error(TooMany, farthest, one).limit, 5)
                for other in webs:
                    for call in CALLS:
                        self.assertEqual(self.check_error(TooMany, call, one, other).limit, 5)

    def test_webs_that_are_not_joined(self):
        for webs in (all_webs(2), all_webs(3), all_webs(4), all_webs(5)[::37]):
            for one in webs:
                for other in webs:
                    if len(one[1]) != len(other[1]):
                        self.check_apart(one, other, "ties")
                    elif odd_in(one) != odd_in(other):
                        self.check_apart(one, other, ("odd", min(set(odd_in(one)) ^ set(odd_in(other)))))

    def check_apart(self, one, other, paper):
        for call in CALLS:
            self.assertEqual(self.check_error(Apart, call, one, other).paper, paper)

    def test_webs_of_five_places_that_are_not_joined(self):
        self.check_apart((5, ()), full_web(5), "ties")
        self.check_apart((5, ((0, 1),)), (5, ((0, 4),)), ("odd", 1))
        self.check_apart(RING, (5, ((0, 1), (0, 2), (1, 2), (3, 4), (0, 3))), ("odd", 0))


class WhatHolds(Waves):

    def test_either_way_about_and_for_the_opposites(self):
        for one, other in joined_pairs(SMALL) + joined_pairs(CHOSEN):
            many, lifts = fewest(one, other), fewest_lifts(one, other)
            for first, last in ((other, one), (opposed(one), opposed(other)), (opposed(other), opposed(one))):
                self.assertEqual((fewest(first, last), fewest_lifts(first, last)), (many, lifts))
            self.assertEqual(many == 0, one == other)

    def test_by_way_of_another_web(self):
        for webs in by_kinds(CHOSEN).values():
            for one in webs:
                for other in webs:
                    for third in webs:
                        self.assertLessEqual(fewest(one, third), fewest(one, other) + fewest(other, third))

    def test_between_the_bounds(self):
        for one, other in joined_pairs(SMALL) + joined_pairs(CHOSEN):
            least, most = row_bounds(one, other)
            self.assertTrue(least <= fewest(one, other) <= most)

    def test_lifts_are_no_fewer_than_deeds_and_lead_where_lifts_join(self):
        for one, other in joined_pairs(SMALL) + joined_pairs(CHOSEN):
            lifts = fewest_lifts(one, other)
            self.assertEqual(lifts is None, not lifts_join(one, other))
            if lifts is not None:
                self.assertGreaterEqual(lifts, fewest(one, other))

    def test_places_renamed(self):
        for one, other in joined_pairs(CHOSEN[::3] + [RING, STAR]) + [(PATH, CROSSED), (LOW, HIGH)]:
            for names in list(permutations(range(one[0])))[7::31]:
                first, last = renamed(one, names), renamed(other, names)
                self.assertEqual((fewest(first, last), fewest_lifts(first, last)), (fewest(one, other), fewest_lifts(one, other)))
                self.assertEqual(farthest(first), farthest(one))

    def test_rows_backwards_take_themselves_back(self):
        for one, other in joined_pairs(CHOSEN):
            row = fewest_row(one, other)
            self.assertEqual(done(other, undone(row)), one)
            self.assertEqual(done(one, row[:1] * 2), one)


class Calls(unittest.TestCase):

    def test_arguments_by_name(self):
        self.assertEqual((fewest(other=STAR, one=RING), fewest_lifts(other=MOVED, one=THREE)), (3, 2))
        self.assertEqual(fewest_row(other=STAR, one=RING), fewest_row(RING, STAR))
        self.assertEqual(farthest(web=RING), (3, 1))

    def test_each_is_defined_in_its_file(self):
        for name in ("fewest", "fewest_row", "fewest_lifts", "farthest"):
            self.assertEqual(getattr(waves, name).__module__, "liftedties.waves")


if __name__ == "__main__":
    unittest.main()
