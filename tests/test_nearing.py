"""[C1], [C3] and [C5]: deeds that bring two webs nearer to one another."""

import unittest
from itertools import combinations

from liftedties import nearing
from liftedties.deeds import deed_error, done
from liftedties.errors import TiesError, Unfit
from liftedties.joining import difference, parting, pieces
from liftedties.nearing import nearer
from tests.samples import (
    HIGH, LEFT, LOW, PATH, RIGHT, WING, all_webs, apart, behind, deeds_of, empty_web, full_web, joined_pairs,
    striped_web,
)

RING = (5, ((0, 1), (0, 4), (1, 2), (2, 3), (3, 4)))
STAR = (5, ((0, 2), (0, 3), (1, 3), (1, 4), (2, 4)))


def can_come_nearer(one, other, steps):
    """Whether some deed of either web makes them fewer; steps has the webs behind all deeds."""
    many = apart(one, other)
    return any(apart(there, other) < many for there in steps[one]) or any(
        apart(one, there) < many for there in steps[other])


def steps_of(webs):
    return {web: {behind(web, deed) for deed in deeds_of(web)} for web in webs}


class Nearer(unittest.TestCase):

    def check(self, one, other, wanted):
        """nearer tells a right pair if wanted, and None otherwise."""
        told = nearer(one, other)
        self.assertEqual(told, nearer(one, other))
        if not wanted:
            self.assertIsNone(told, (one, other))
            return
        self.assertEqual((type(told), len(told)), (tuple, 2), (one, other))
        side, deed = told
        self.assertIs(type(side), int)
        self.assertIn(side, (0, 1))
        self.assertIsNone(deed_error((one, other)[side], deed))
        there = done((one, other)[side], (deed,))
        self.assertLess(apart(there, (one, other)[1 - side]), apart(one, other))

    def test_the_examples_of_the_document(self):
        side, deed = nearer(LOW, HIGH)
        self.assertEqual(done((LOW, HIGH)[side], (deed,)), (HIGH, LOW)[side])
        self.assertIsNone(nearer(LEFT, RIGHT))
        self.assertIsNone(nearer(LEFT, LEFT))

    def test_all_webs_of_up_to_four_places(self):
        for many in (1, 2, 3, 4):
            webs = all_webs(many)
            steps = steps_of(webs)
            for one in webs:
                for other in webs:
                    self.check(one, other, can_come_nearer(one, other, steps))

    def test_webs_of_five_places(self):
        webs = all_webs(5)
        steps = steps_of(webs)
        for one in webs[::41]:
            for other in webs[::3]:
                self.check(one, other, can_come_nearer(one, other, steps))

    def test_webs_of_more_places(self):
        for many in (6, 7, 9, 12):
            webs = [striped_web(many, step) for step in (3, 4, 5, 7)] + [empty_web(many), full_web(many)]
            steps = steps_of(webs)
            for one in webs:
                for other in webs:
                    self.check(one, other, can_come_nearer(one, other, steps))

    def test_a_few_ties_among_many_places(self):
        lots = [tuple(combinations(places, 2)) for places in ((0, 1, 2), (3, 4, 5), (1, 2, 3), (0, 5, 6), (4, 5, 6))]
        webs = [(7, ties) for ties in lots] + [(7, tuple(sorted(set(lots[0]) ^ set(ties)))) for ties in lots[1:]]
        steps = steps_of(webs)
        for one in webs:
            for other in webs:
                self.check(one, other, can_come_nearer(one, other, steps))

    def test_a_deed_of_the_one_web_alone_or_of_the_other_alone(self):
        webs = all_webs(5)[::13]
        steps = steps_of(webs)
        sides = set()
        for one in webs:
            for other in webs:
                many = apart(one, other)
                here = any(apart(there, other) < many for there in steps[one])
                there = any(apart(one, there) < many for there in steps[other])
                sides.add((here, there))
                if here != there:
                    self.assertEqual(nearer(one, other)[0], 0 if here else 1)
        self.assertEqual(sides, {(False, False), (False, True), (True, False), (True, True)})

    def test_one_web_has_nothing_to_come_nearer(self):
        for web in all_webs(4) + [PATH, WING, empty_web(12), full_web(12), striped_web(12, 5), (1, ())]:
            self.assertIsNone(nearer(web, web))

    def test_webs_that_are_not_joined(self):
        one, other = (4, ((0, 1), (0, 2), (1, 2))), (4, ((0, 1), (0, 3)))
        self.assertIsNotNone(parting(one, other))
        self.check(one, other, can_come_nearer(one, other, steps_of((one, other))))
        self.check(empty_web(12), full_web(12), False)
        self.check(full_web(12), empty_web(12), False)

    def test_webs_of_unlike_numbers_of_places_are_unfit(self):
        webs = [empty_web(many) for many in range(1, 13)] + [full_web(12), PATH, WING]
        for one in webs:
            for other in webs:
                if one[0] != other[0]:
                    with self.assertRaises(TiesError) as caught:
                        nearer(one, other)
                    self.assertIs(type(caught.exception), Unfit)


class WhatHolds(unittest.TestCase):

    def test_pieces_of_joined_webs_without_a_nearer_one(self):
        for one, other in joined_pairs(all_webs(5) + [LEFT, RIGHT]):
            if nearer(one, other) is None:
                self.check_pieces(one, other)

    def check_pieces(self, one, other):
        self.assertIsNone(parting(one, other))
        red, _ = difference(one, other)
        for piece in pieces(one, other):
            reds = sum(tie in red for tie in piece)
            self.assertLessEqual(min(reds, len(piece) - reds), 1)

    def test_it_goes_on_until_nothing_comes_nearer(self):
        for one, other in ((RING, STAR), (striped_web(12, 3), striped_web(12, 4)), (striped_web(9, 5), striped_web(9, 7))):
            webs, row = [one, other], 0
            while (told := nearer(webs[0], webs[1])) is not None:
                side, deed = told
                ahead = apart(webs[0], webs[1])
                webs[side] = done(webs[side], (deed,))
                self.assertLessEqual(apart(webs[0], webs[1]), ahead - 2)
                row += 1
            self.assertLessEqual(2 * row, apart(one, other))


class Calls(unittest.TestCase):

    def test_arguments_by_name(self):
        self.assertEqual(nearer(other=HIGH, one=LOW), nearer(LOW, HIGH))

    def test_it_is_defined_in_its_file(self):
        self.assertEqual(nearing.nearer.__module__, "liftedties.nearing")


if __name__ == "__main__":
    unittest.main()
