"""[D1], [D3] to [D6] and [A2] (b): exchanges and rows of deeds by lifts alone."""

import copy
import unittest
from itertools import combinations, product

from liftedties import liftrows
from liftedties.deeds import all_deeds
from liftedties.errors import Apart, NoLifts, TiesError, Unfit
from liftedties.liftrows import by_lifts, lift_row, lifts_join
from tests.samples import (
    HIGH, LEFT, LOW, PATH, RIGHT, WING, all_webs, apart, behind, by_kinds, deeds_of, empty_web, full_web, has_lift,
    is_deed, is_lift_of, joined_pairs, led_by, lifts_of, odd_in, opposed, pairs, renamed, ring, striped_web, wandered,
    web_with,
)

RING = (5, ((0, 1), (0, 4), (1, 2), (2, 3), (3, 4)))
STAR = (5, ((0, 2), (0, 3), (1, 3), (1, 4), (2, 4)))
THREE_PAIRS = (6, ((0, 1), (2, 3), (4, 5)))
CROSSED = (4, ((0, 2), (1, 2), (1, 3)))
SMALL = [web for many in (1, 2, 3, 4) for web in all_webs(many)]
LONELY = [PATH, RING, THREE_PAIRS, opposed(THREE_PAIRS), (12, ((0, 1), (2, 3), (4, 5), (6, 7), (8, 9), (10, 11))),
          opposed((12, ((0, 1), (2, 3)))), (7, ((0, 5), (3, 4))), (4, ring(range(4)))]
EXCHANGE = (0, 3, 1, 2)


def namings(deed):
    """The eight quadruples that do the same as an exchange."""
    a, d, b, c = deed
    return [(a, d, b, c), (d, a, b, c), (a, d, c, b), (d, a, c, b), (b, c, a, d), (c, b, a, d), (b, c, d, a), (c, b, d, a)]


def unhelped(many, beyond, ends, mates, inner):
    """A web with the exchange EXCHANGE that no third place helps on.

    beyond are the ties between places beyond; ends tells which of these are tied to 0 and 3, mates
    which to 1 and 2; inner the ties (0, 3) and (1, 2) that there are.
    """
    ties = [(0, 1), (2, 3), *inner, *beyond]
    ties += [(place, end) for end in ends for place in (0, 3)]
    ties += [(place, mate) for mate in mates for place in (1, 2)]
    return web_with(many, ties)


def all_unhelped(many):
    """All such webs of so many places."""
    further = range(4, many)
    told = []
    for bits in product((0, 1), repeat=2 * len(further) + 2):
        ends = [place for place, bit in zip(further, bits) if bit]
        mates = [place for place, bit in zip(further, bits[len(further):]) if bit]
        inner = [tie for tie, bit in zip(((0, 3), (1, 2)), bits[-2:]) if bit]
        for beyond in product((0, 1), repeat=len(further) * (len(further) - 1) // 2):
            ties = [tie for tie, bit in zip(combinations(further, 2), beyond) if bit]
            told.append(unhelped(many, ties, ends, mates, inner))
    return told


class ByLifts(unittest.TestCase):

    def check(self, web, deed):
        """At most four lifts that lead where the deed does; NoLifts() if it is an exchange of a lonely web."""
        if not is_lift_of(web, deed) and not has_lift(web):
            self.check_none(web, deed)
            return
        row = by_lifts(web, deed)
        self.assertEqual(led_by(web, row, is_lift_of), behind(web, deed), (web, deed, row))
        self.assertIn(len(row), (1, 2, 3, 4))

    def check_none(self, web, deed):
        with self.assertRaises(TiesError) as caught:
            by_lifts(web, deed)
        self.assertIs(type(caught.exception), NoLifts)

    def test_the_examples_of_the_document(self):
        three, deed = (5, ((0, 1), (0, 4), (2, 3))), (0, 3, 1, 2)
        self.assertEqual(led_by(three, by_lifts(three, deed), is_lift_of), (5, ((0, 2), (0, 4), (1, 3))))
        walk, turn = (5, ((0, 1), (0, 2), (1, 3))), (2, 3, 0, 1)
        self.assertEqual(led_by(walk, by_lifts(walk, turn), is_lift_of), (5, ((0, 1), (0, 3), (1, 2))))
        self.assertIn(len(by_lifts(walk, turn)), (3, 4))
        self.check_none(PATH, (1, 2, 0, 3))
        self.assertEqual(led_by(LOW, by_lifts(LOW, (2, 3, 0, 1)), is_lift_of), HIGH)

    def test_all_deeds_of_four_places_in_all_namings(self):
        for web in all_webs(4):
            for deed in deeds_of(web):
                self.check(web, deed)

    def test_all_deeds_of_five_places(self):
        for at, web in enumerate(all_webs(5)):
            for deed in all_deeds(web) if at % 5 else deeds_of(web):
                self.check(web, deed)

    def test_deeds_of_six_places(self):
        for web in all_webs(6)[::83]:
            for deed in all_deeds(web):
                self.check(web, deed)

    def test_deeds_of_twelve_places(self):
        for web in [striped_web(12, step) for step in (3, 5, 7)] + [web_with(12, ring(range(12)))]:
            for some in (web, opposed(web)):
                for deed in all_deeds(some)[::17]:
                    self.check(some, deed)

    def test_exchanges_that_no_third_place_helps_on(self):
        for many in (5, 6):
            for web in all_unhelped(many):
                self.check(web, EXCHANGE)
        for web in all_unhelped(7)[::11]:
            self.check(web, EXCHANGE)

    def test_such_exchanges_in_all_namings(self):
        for web in all_unhelped(5) + all_unhelped(6)[::7]:
            for deed in namings(EXCHANGE):
                self.check(web, deed)

    def test_two_ties_that_touch_nothing_else(self):
        # A fork, a star, a ring and others beyond: two places are handed over to one of the four and back.
        for many in range(5, 13):
            beyond = range(4, many)
            lots = [[], [(place, place + 1) for place in beyond[:-1]], list(combinations(beyond, 2))]
            lots += [[(place, many - 1) for place in beyond[:-1]], [(4, place) for place in beyond[1:]]]
            lots += [[(4, 5)], [(many - 3, many - 1), (many - 2, many - 1)] if many > 6 else []]
            for lot in lots:
                web = unhelped(many, [tie for tie in lot if 4 <= tie[0] < tie[1] < many], [], [], [])
                for deed in namings(EXCHANGE):
                    self.check(web, deed)
                    self.check(opposed(web), deed)

    def test_places_of_all_sorts_beyond_among_twelve(self):
        beyond = tuple(range(4, 12))
        for step in (1, 2, 3, 5):
            for ends, mates in (((), ()), (beyond, ()), ((), beyond), (beyond, beyond), (beyond[:3], beyond[2:]),
                                (beyond[:1], ()), ((), beyond[-1:]), (beyond[1:], beyond[:-1])):
                for inner in ((), ((0, 3),), ((1, 2),), ((0, 3), (1, 2))):
                    ties = [tie for tie in combinations(beyond, 2) if (tie[0] * 3 + tie[1]) % 5 < step]
                    web = unhelped(12, ties if step > 1 else [], ends, mates, inner)
                    for deed in (EXCHANGE, (2, 1, 3, 0)):
                        self.check(web, deed)

    def test_a_lift_may_stay_as_it_is(self):
        for web in (LOW, WING, striped_web(12, 3)):
            for deed in lifts_of(web)[::5]:
                self.check(web, deed)

    def test_exchanges_of_lonely_webs(self):
        for web in LONELY:
            for deed in all_deeds(web):
                self.check_none(web, deed)
        for deed in namings((1, 2, 0, 3)):
            self.check_none(PATH, deed)

    def test_equal_calls_get_equal_results_and_change_nothing(self):
        for web, deed in ((LOW, (2, 3, 0, 1)), (unhelped(7, [(4, 5), (4, 6)], [], [], []), EXCHANGE),
                          (unhelped(6, [], [4], [], []), EXCHANGE)):
            ahead = copy.deepcopy((web, deed))
            self.assertEqual(by_lifts(web, deed), by_lifts(*copy.deepcopy(ahead)))
            self.assertEqual((web, deed), ahead)


class LiftRow(unittest.TestCase):

    def check(self, one, other, joins):
        """A right row of lifts between joined webs if joins, otherwise NoLifts()."""
        self.assertIs(lifts_join(one, other), joins, (one, other))
        if not joins:
            with self.assertRaises(TiesError) as caught:
                lift_row(one, other)
            self.assertIs(type(caught.exception), NoLifts)
            return
        row = lift_row(one, other)
        self.assertEqual(led_by(one, row, is_lift_of), other, (one, other, row))
        self.assertLessEqual(len(row), 8 * apart(one, other))
        self.assertEqual(row == (), one == other)

    def test_the_examples_of_the_document(self):
        told = [lifts_join(LOW, HIGH), lifts_join(LEFT, RIGHT), lifts_join(PATH, CROSSED), lifts_join(PATH, PATH),
                lifts_join(LOW, PATH)]
        self.assertEqual(told, [True, True, False, True, False])
        self.assertEqual(led_by(LEFT, lift_row(LEFT, RIGHT), is_lift_of), RIGHT)
        self.assertLessEqual(len(lift_row(LEFT, RIGHT)), 48)
        self.assertEqual(lift_row(THREE_PAIRS, THREE_PAIRS), ())
        self.check(PATH, CROSSED, False)
        with self.assertRaises(Apart) as caught:
            lift_row((3, ((0, 1),)), (3, ((1, 2),)))
        self.assertEqual(caught.exception.paper, ("odd", 0))
        with self.assertRaises(Unfit):
            lifts_join(PATH, RING)

    def test_all_joined_webs_of_up_to_five_places(self):
        for one, other in joined_pairs(SMALL + all_webs(5)):
            self.check(one, other, one == other or has_lift(one))

    def test_webs_to_which_lifts_lead(self):
        # What lifts reach is found by doing all of them, one behind another.
        webs = all_webs(4) + all_webs(5)[::9]
        for one in webs:
            found, newest = {one}, [one]
            while newest:
                newest = {behind(web, lift) for web in newest for lift in lifts_of(web)} - found
                found |= newest
            for other in by_kinds(all_webs(one[0]))[(one[0], len(one[1]), odd_in(one))] if one[0] == 4 else found:
                self.assertIs(lifts_join(one, other), other in found)

    def test_webs_of_many_places(self):
        for start in [striped_web(12, step) for step in (3, 4, 5, 7)] + [web_with(12, ring(range(12)))]:
            for one in (start, opposed(start)):
                for turns in (1, 3, 40):
                    self.check(one, wandered(one, turns), True)
                    self.check(wandered(one, turns), one, True)

    def test_pieces_of_one_colour(self):
        for red, blue in ((ring((0, 1, 2)), ring((9, 10, 11))), (ring((0, 1, 2, 3)), ring((8, 9, 10, 11))),
                          (tuple(combinations(range(5), 2)), tuple(combinations(range(7, 12), 2)))):
            for common in ((), ((5, 6),), [(one, other) for one, other in pairs(12) if one < 5 and other > 6]):
                one, other = web_with(12, red, common), web_with(12, blue, common)
                self.check(one, other, True)
                self.check(opposed(other), opposed(one), True)

    def test_exchanges_far_from_all_other_ties(self):
        for many in (7, 9, 12):
            one = unhelped(many, [(many - 3, many - 1), (many - 2, many - 1)], [], [], [])
            for other in (behind(one, EXCHANGE), behind(one, (0, 2, 1, 3))):
                self.check(one, other, True)
                self.check(opposed(one), opposed(other), True)

    def test_lonely_webs_are_led_to_themselves_alone(self):
        for web in LONELY + [empty_web(12), full_web(12), (1, ()), (2, ((0, 1),)), (3, ((0, 1), (1, 2)))]:
            self.check(web, web, True)
            for deed in all_deeds(web):
                self.check(web, behind(web, deed), False)
                self.check(behind(web, deed), web, False)
        self.check(RING, STAR, False)

    def test_two_joined_webs_are_both_lonely_or_neither(self):
        for one, other in joined_pairs(SMALL + all_webs(5)[::2]):
            self.assertIs(lifts_join(one, other), lifts_join(other, one))

    def test_webs_that_are_not_joined(self):
        for one, other, paper in ((LOW, PATH, ("odd", 0)), (PATH, LOW, ("odd", 0)), (PATH, (4, ((0, 1),)), "ties"),
                                  (empty_web(12), full_web(12), "ties"), ((12, ((9, 11),)), (12, ((10, 11),)), ("odd", 9)),
                                  (PATH, (4, ((0, 2), (0, 3), (2, 3))), ("odd", 0)), (THREE_PAIRS, (6, ()), "ties")):
            self.assertIs(lifts_join(one, other), False)
            with self.assertRaises(TiesError) as caught:
                lift_row(one, other)
            self.assertIs(type(caught.exception), Apart)
            self.assertEqual(caught.exception.paper, paper)

    def test_all_webs_of_four_places_that_are_not_joined(self):
        webs = all_webs(4)
        for one in webs:
            for other in webs:
                if len(one[1]) != len(other[1]) or odd_in(one) != odd_in(other):
                    self.assertIs(lifts_join(one, other), False)
                    with self.assertRaises(Apart):
                        lift_row(one, other)

    def test_webs_of_unlike_numbers_of_places_are_unfit(self):
        webs = [empty_web(many) for many in range(1, 13)] + [full_web(3), full_web(12), PATH, RING, WING]
        for one in webs:
            for other in webs:
                if one[0] != other[0]:
                    for call in (lifts_join, lift_row):
                        with self.assertRaises(TiesError) as caught:
                            call(one, other)
                        self.assertIs(type(caught.exception), Unfit)


class WhatHolds(unittest.TestCase):

    def test_rows_backwards_lead_back_and_rows_of_opposites(self):
        for one, other in joined_pairs(all_webs(5)[::3]) + [(LEFT, RIGHT), (LOW, HIGH)]:
            if lifts_join(one, other):
                row = lift_row(one, other)
                self.assertEqual(led_by(other, row[::-1], is_lift_of), one)
                self.assertEqual(led_by(opposed(one), row, is_lift_of), opposed(other))

    def test_places_called_otherwise(self):
        for one, other in ((LEFT, RIGHT), (LOW, HIGH), (PATH, CROSSED), (RING, STAR)):
            names = [one[0] - 1 - place for place in range(one[0])]
            self.assertIs(lifts_join(renamed(one, names), renamed(other, names)), lifts_join(one, other))

    def test_samples_are_what_they_are_meant_to_be(self):
        for many in (5, 6):
            for web in all_unhelped(many):
                self.assertTrue(is_deed(web, EXCHANGE) and not is_lift_of(web, EXCHANGE))


class Calls(unittest.TestCase):

    def test_arguments_by_name(self):
        self.assertEqual(by_lifts(deed=(2, 3, 0, 1), web=LOW), by_lifts(LOW, (2, 3, 0, 1)))
        self.assertIs(lifts_join(other=CROSSED, one=PATH), False)
        self.assertEqual(lift_row(other=RIGHT, one=LEFT), lift_row(LEFT, RIGHT))

    def test_equal_calls_get_equal_results_and_change_nothing(self):
        for one, other in ((LEFT, RIGHT), (LOW, HIGH), (striped_web(12, 3), wandered(striped_web(12, 3), 9))):
            ahead = copy.deepcopy((one, other))
            self.assertEqual(lift_row(one, other), lift_row(*copy.deepcopy(ahead)))
            self.assertEqual((one, other), ahead)

    def test_each_is_defined_in_its_file(self):
        for name in ("by_lifts", "lifts_join", "lift_row"):
            self.assertEqual(getattr(liftrows, name).__module__, "liftedties.liftrows")


if __name__ == "__main__":
    unittest.main()
