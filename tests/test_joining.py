"""[C1] and [C2]: what keeps webs apart, their difference and its pieces."""

import unittest

from liftedties import joining
from liftedties.deeds import all_deeds, done
from liftedties.errors import TiesError, Unfit
from liftedties.joining import difference, parting, pieces
from liftedties.webs import odd_places
from tests.samples import (
    HIGH, LEFT, LOW, PATH, RIGHT, WING, all_webs, empty_web, full_web, pairs, renamed, striped_web,
)

FOUR = all_webs(4)
LARGE = [striped_web(12, 3), striped_web(12, 5), striped_web(12, 7), empty_web(12), full_web(12)]
PAIRS = (
    [(one, other) for one in FOUR[::3] for other in FOUR]
    + [(one, other) for one in all_webs(5)[::101] for other in all_webs(5)[::7]]
    + [(one, other) for one in LARGE for other in LARGE]
)


def reached(web):
    """All webs to which rows of deeds lead from the web."""
    found, ahead = {web}, [web]
    while ahead:
        here = ahead.pop()
        for deed in all_deeds(here):
            there = done(here, (deed,))
            if there not in found:
                found.add(there)
                ahead.append(there)
    return found


def plain_pieces(ties):
    """The pieces of these ties, each grown from one tie until no further one touches it."""
    left, told = list(ties), []
    while left:
        piece, grown = [left.pop()], True
        while grown:
            places = {place for tie in piece for place in tie}
            more = [tie for tie in left if places & set(tie)]
            piece += more
            left = [tie for tie in left if tie not in more]
            grown = bool(more)
        told.append(tuple(sorted(piece)))
    return tuple(sorted(told))


class Unlike(unittest.TestCase):

    def test_webs_of_unlike_numbers_of_places_are_unfit(self):
        webs = [empty_web(many) for many in range(1, 13)] + [full_web(3), full_web(12), PATH, WING]
        for call in (parting, difference, pieces):
            for one in webs:
                for other in webs:
                    if one[0] != other[0]:
                        self.check_unfit(call, one, other)

    def check_unfit(self, call, one, other):
        with self.assertRaises(TiesError) as caught:
            call(one, other)
        self.assertIs(type(caught.exception), Unfit)


class Parting(unittest.TestCase):

    def test_the_examples_of_the_document(self):
        self.assertEqual((parting(LOW, HIGH), parting(LEFT, RIGHT)), (None, None))
        self.assertEqual(parting((3, ((0, 1),)), (3, ((0, 1), (0, 2)))), "ties")
        self.assertEqual(parting((3, ((0, 1),)), (3, ((1, 2),))), ("odd", 0))
        with self.assertRaises(Unfit):
            parting(LOW, LEFT)

    def test_ties_come_ahead_of_odd_places(self):
        for one, other in PAIRS:
            told = parting(one, other)
            unlike = sorted(set(odd_places(one)) ^ set(odd_places(other)))
            if len(one[1]) != len(other[1]):
                self.assertEqual(told, "ties")
            else:
                self.assertEqual(told, ("odd", unlike[0]) if unlike else None)

    def test_the_least_place_that_is_odd_in_just_one(self):
        self.assertEqual(parting((6, ((0, 1), (2, 3))), (6, ((0, 1), (3, 5)))), ("odd", 2))
        self.assertEqual(parting((6, ((0, 1), (3, 5))), (6, ((0, 1), (2, 3)))), ("odd", 2))
        self.assertEqual(parting((12, ((9, 11),)), (12, ((10, 11),))), ("odd", 9))
        for least in range(11):
            for place in range(least + 1, 12):
                mate = next(mate for mate in range(12) if mate not in (least, place))
                one, other = [(12, (tuple(sorted((mate, odd))),)) for odd in (least, place)]
                self.assertEqual(parting(one, other), ("odd", least))
                self.assertEqual(parting(other, one), ("odd", least))

    def test_joined_are_just_those_to_which_deeds_lead(self):
        for many, step in ((1, 1), (2, 1), (3, 1), (4, 1), (5, 9)):
            webs = all_webs(many)
            for one in webs[::step]:
                found = reached(one)
                for other in webs:
                    self.assertEqual(parting(one, other) is None, other in found, (one, other))

    def test_each_web_is_joined_with_itself(self):
        for web in FOUR + LARGE + [(1, ()), (2, ()), (2, ((0, 1),))]:
            self.assertIsNone(parting(web, web))


class Difference(unittest.TestCase):

    def test_the_examples_of_the_document(self):
        self.assertEqual(difference(LOW, HIGH), (((0, 2), (1, 2)), ((0, 3), (1, 3))))
        self.assertEqual(difference(LEFT, LEFT), ((), ()))

    def test_red_ties_are_of_one_alone_and_blue_ones_of_other(self):
        for one, other in PAIRS:
            red = tuple(tie for tie in pairs(one[0]) if tie in one[1] and tie not in other[1])
            blue = tuple(tie for tie in pairs(one[0]) if tie in other[1] and tie not in one[1])
            self.assertEqual(difference(one, other), (red, blue))
            self.assertEqual(difference(other, one), (blue, red))

    def test_no_ties_and_all_ties(self):
        for many in range(1, 13):
            self.assertEqual(difference(empty_web(many), full_web(many)), ((), pairs(many)))
            self.assertEqual(difference(full_web(many), empty_web(many)), (pairs(many), ()))
            self.assertEqual(difference(full_web(many), full_web(many)), ((), ()))


class Pieces(unittest.TestCase):

    def test_the_examples_of_the_document(self):
        self.assertEqual(pieces(LOW, HIGH), (((0, 2), (0, 3), (1, 2), (1, 3)),))
        self.assertEqual(pieces(LEFT, RIGHT), (((0, 1), (0, 2), (1, 2)), ((3, 4), (3, 5), (4, 5))))

    def test_they_are_grown_by_common_places(self):
        for one, other in PAIRS:
            red, blue = difference(one, other)
            self.assertEqual(pieces(one, other), plain_pieces(red + blue))
            self.assertEqual(pieces(other, one), plain_pieces(red + blue))

    def test_many_pieces_and_pieces_that_meet_late(self):
        apart = tuple((place, place + 1) for place in range(0, 12, 2))
        self.assertEqual(pieces((12, apart), (12, ())), tuple((tie,) for tie in apart))
        self.assertEqual(pieces((12, apart), (12, apart)), ())
        self.assertEqual(pieces((12, apart[:3]), (12, apart[3:])), tuple((tie,) for tie in apart))
        ring = tuple(sorted(apart + tuple((place, place + 1) for place in range(1, 11, 2))))
        self.assertEqual(pieces((12, ring), (12, ())), (ring,))
        self.assertEqual(pieces((12, apart), (12, ring[1::2])), (ring,))
        late = ((0, 3), (1, 4), (2, 5), (3, 4), (4, 5))
        self.assertEqual(pieces((6, late), (6, ())), (late,))
        comb = (8, ((0, 6), (1, 5), (2, 7), (3, 4), (5, 6)))
        self.assertEqual(pieces(comb, (8, ())), (((0, 6), (1, 5), (5, 6)), ((2, 7),), ((3, 4),)))

    def test_ties_of_both_webs_join_no_pieces(self):
        self.assertEqual(pieces((4, ((0, 1), (1, 2))), (4, ((1, 2), (2, 3)))), (((0, 1),), ((2, 3),)))

    def test_one_web_has_no_piece(self):
        for web in FOUR + LARGE + [(1, ())]:
            self.assertEqual(pieces(web, web), ())


class WhatHolds(unittest.TestCase):

    def test_differences_of_joined_webs(self):
        for one, other in PAIRS:
            if parting(one, other) is None:
                red, blue = difference(one, other)
                self.assertEqual(len(red), len(blue))
                for place in range(one[0]):
                    self.assertEqual(sum(place in tie for tie in red + blue) % 2, 0)

    def test_places_called_otherwise(self):
        for one, other in PAIRS[::17]:
            names = [one[0] - 1 - place for place in range(one[0])]
            told = tuple(sorted(
                tuple(sorted(tuple(sorted((names[low], names[high]))) for low, high in piece))
                for piece in pieces(one, other)
            ))
            self.assertEqual(pieces(renamed(one, names), renamed(other, names)), told)


class Calls(unittest.TestCase):

    def test_arguments_by_name(self):
        self.assertEqual(parting(other=(3, ((1, 2),)), one=(3, ((0, 1),))), ("odd", 0))
        self.assertEqual(difference(other=HIGH, one=LOW), difference(LOW, HIGH))
        self.assertEqual(pieces(other=HIGH, one=LOW), pieces(LOW, HIGH))

    def test_each_is_defined_in_its_file(self):
        for name in ("parting", "difference", "pieces"):
            self.assertEqual(getattr(joining, name).__module__, "liftedties.joining")


if __name__ == "__main__":
    unittest.main()
