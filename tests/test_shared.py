"""[G1] to [G4]: what the webs of a kind share."""

import copy
import unittest
from collections import Counter
from itertools import permutations

from liftedties import shared
from liftedties.errors import TiesError, Unfit
from liftedties.shared import numbers_at, with_tie, word_of
from liftedties.sizes import size_of
from tests.samples import (
    all_kinds, all_webs, behind, by_kinds, deeds_of, kinds_by_numbers, pairs, plain_size, tied_in,
)

FEW = {kind: webs for many in (1, 2, 3, 4, 5) for kind, webs in all_kinds(many).items()}
SOME = [(12, 33, ()), (12, 20, (0, 3, 7, 11)), (12, 60, (0, 11)), (12, 40, tuple(range(12))), (11, 30, (2, 9)),
        (9, 17, (0, 4, 5, 8)), (8, 3, (1, 2)), (7, 20, (0, 6)), (6, 3, tuple(range(6))), (6, 12, ()),
        (12, 66, tuple(range(12))), (12, 0, ())]
WITHOUT = [(4, 1, ()), (4, 0, (2,)), (5, 6, (0,)), (12, 33, (0, 1, 2)), (12, 66, ()), (12, 65, ()), (2, 0, (0, 1)),
           (11, 54, ()), (12, 5, tuple(range(12))), (12, 33, (4,)), (3, 1, (0,)), (2, 1, ())]


def turned(odd, *places):
    """The odd places, with each of these odd just if it was not."""
    return tuple(sorted(set(odd) ^ set(places)))


class WithTie(unittest.TestCase):

    def test_the_examples_of_the_document(self):
        told = [with_tie((4, 3, ()), 0, 1), with_tie((4, 5, (0, 1)), 2, 3), with_tie((4, 5, (0, 1)), 1, 0),
                with_tie((4, 3, (0, 1, 2, 3)), 2, 0), with_tie((4, 1, ()), 0, 1)]
        self.assertEqual(told, [2, 0, 1, 2, 0])
        told = [with_tie((5, 4, (0, 1)), *pair) for pair in ((0, 1), (0, 2), (2, 3))]
        self.assertEqual(told, [7, 4, 7])

    def test_all_kinds_of_up_to_five_places(self):
        for kind, webs in FEW.items():
            for one, other in permutations(range(kind[0]), 2):
                told = with_tie(kind, one, other)
                self.assertEqual((told, type(told)), (sum(tied_in(web, one, other) for web in webs), int), kind)

    def test_kinds_of_six_places(self):
        for kind, webs in list(by_kinds(all_webs(6)).items())[::11]:
            for one, other in permutations(range(6), 2):
                self.assertEqual(with_tie(kind, one, other), sum(tied_in(web, one, other) for web in webs))

    def test_kinds_without_webs(self):
        for kind in WITHOUT:
            for one, other in list(permutations(range(kind[0]), 2))[::5]:
                self.assertEqual(with_tie(kind, one, other), 0)

    def test_no_tie_and_all_ties(self):
        for many in range(2, 13):
            every = () if many % 2 else tuple(range(many))
            self.assertEqual(with_tie((many, 0, ()), 0, many - 1), 0)
            self.assertEqual(with_tie((many, len(pairs(many)), every), many - 1, 0), 1)


class WordOf(unittest.TestCase):

    def check_unfit(self, kind, one, other):
        with self.assertRaises(TiesError) as caught:
            word_of(kind, one, other)
        self.assertIs(type(caught.exception), Unfit)

    def test_the_examples_of_the_document(self):
        told = [word_of((4, 3, ()), 0, 1), word_of((4, 5, (0, 1)), 2, 3), word_of((4, 5, (0, 1)), 1, 0),
                word_of((5, 3, (0, 1)), 0, 1), word_of((5, 7, (0, 1)), 0, 1)]
        self.assertEqual(told, ["some", "none", "all", "none", "all"])
        self.check_unfit((4, 1, ()), 0, 1)

    def test_all_kinds_of_up_to_five_places(self):
        words = set()
        for kind, webs in FEW.items():
            for one, other in permutations(range(kind[0]), 2):
                if not webs:
                    self.check_unfit(kind, one, other)
                    continue
                tied = {tied_in(web, one, other) for web in webs}
                word = "some" if len(tied) == 2 else "all" if True in tied else "none"
                self.assertEqual(word_of(kind, one, other), word)
                words.add(word)
        self.assertEqual(words, {"all", "none", "some"})

    def test_kinds_without_webs(self):
        for kind in WITHOUT:
            self.check_unfit(kind, 0, 1)
            self.check_unfit(kind, kind[0] - 1, 0)

    def test_twelve_places(self):
        every = tuple(range(12))
        told = [word_of((12, 33, ()), 11, 0), word_of((12, 66, every), 4, 3), word_of((12, 0, ()), 0, 11),
                word_of((12, 1, (3, 8)), 8, 3), word_of((12, 1, (3, 8)), 8, 4), word_of((12, 65, every[2:]), 0, 1),
                word_of((12, 65, every[2:]), 1, 2), word_of((12, 6, every), 5, 6), word_of((12, 3, (0, 1)), 0, 1)]
        self.assertEqual(told, ["some", "all", "none", "all", "none", "none", "all", "some", "none"])


class NumbersAt(unittest.TestCase):

    def test_the_examples_of_the_document(self):
        told = [numbers_at((4, 3, ()), 0), numbers_at((4, 3, (0, 1, 2, 3)), 3), numbers_at((5, 4, (0, 1)), 1),
                numbers_at((5, 4, (0, 1)), 2), numbers_at((5, 6, ()), 4), numbers_at((1, 0, ()), 0),
                numbers_at((4, 2, (1,)), 1)]
        self.assertEqual(told, [((0, 1), (2, 3)), ((1, 3), (3, 1)), ((1, 10), (3, 3)), ((0, 2), (2, 11)),
                                ((2, 12), (4, 3)), ((0, 1),), ()])

    def check(self, kind, webs):
        for place in range(kind[0]):
            found = Counter(sum(place in tie for tie in web[1]) for web in webs)
            self.assertEqual(numbers_at(kind, place), tuple(sorted(found.items())), (kind, place))

    def test_all_kinds_of_up_to_five_places(self):
        for kind, webs in FEW.items():
            self.check(kind, webs)

    def test_kinds_of_six_places(self):
        for kind, webs in list(by_kinds(all_webs(6)).items())[::11]:
            self.check(kind, webs)

    def test_kinds_without_webs(self):
        for kind in WITHOUT:
            for place in range(kind[0]):
                self.assertEqual(numbers_at(kind, place), ())

    def test_no_tie_and_all_ties(self):
        for many in range(1, 13):
            every = () if many % 2 else tuple(range(many))
            for place in range(many):
                self.assertEqual(numbers_at((many, 0, ()), place), ((0, 1),))
                self.assertEqual(numbers_at((many, len(pairs(many)), every), place), ((many - 1, 1),))

    def test_one_place(self):
        self.assertEqual((numbers_at((1, 0, ()), 0), numbers_at((1, 0, (0,)), 0)), (((0, 1),), ()))


class WhatHolds(unittest.TestCase):

    def test_with_a_tie_taken_out_or_put_in(self):
        lots = [kind for kind in FEW if kind[1] > 0] + SOME[:-1]
        for many in (7, 10, 12):
            lots += [kind for kind in kinds_by_numbers(many)[::19] if kind[1] > 0]
        for kind in lots:
            many, count, odd = kind
            for one, other in pairs(many)[::4 if many < 6 else 13]:
                fewer = (many, count - 1, turned(odd, one, other))
                self.assertEqual(with_tie(kind, one, other) + with_tie(fewer, one, other), size_of(fewer))

    def test_over_all_pairs(self):
        for kind in SOME + list(FEW):
            many, count, odd = kind
            found = {}
            for one, other in pairs(many):
                found.setdefault(len({one, other} & set(odd)), []).append(with_tie(kind, one, other))
            self.assertEqual(sum(sum(told) for told in found.values()), count * plain_size(many, count, len(odd)))
            self.assertLessEqual({len(set(told)) for told in found.values()}, {1})

    def test_in_either_order(self):
        for kind in SOME:
            for one, other in pairs(kind[0])[::3]:
                self.assertEqual(with_tie(kind, one, other), with_tie(kind, other, one))
                self.assertEqual(word_of(kind, one, other), word_of(kind, other, one))

    def test_no_deed_puts_in_or_takes_out_what_all_share(self):
        for kind, webs in FEW.items():
            for one, other in pairs(kind[0]) if webs else ():
                if word_of(kind, one, other) != "some":
                    for web in webs:
                        for deed in deeds_of(web):
                            self.assertIs(tied_in(behind(web, deed), one, other), tied_in(web, one, other))

    def test_the_numbers_of_the_places(self):
        for kind in SOME + list(FEW):
            many, count, odd = kind
            size = plain_size(many, count, len(odd))
            total = 0
            for place in range(many):
                told = numbers_at(kind, place)
                self.assertEqual([number % 2 for number, _ in told], [int(place in odd)] * len(told))
                self.assertEqual(list(told), sorted(told))
                self.assertTrue(all(ways > 0 and 0 <= number < many for number, ways in told))
                self.assertEqual(sum(ways for _, ways in told), size)
                total += sum(number * ways for number, ways in told)
            self.assertEqual(total, 2 * count * size)

    def test_equal_calls_get_equal_results_and_change_nothing(self):
        for kind in SOME:
            ahead = copy.deepcopy(kind)
            self.assertEqual(with_tie(kind, 0, 3), with_tie(copy.deepcopy(kind), 0, 3))
            self.assertEqual(word_of(kind, 0, 3), word_of(copy.deepcopy(kind), 0, 3))
            self.assertEqual(numbers_at(kind, 3), numbers_at(copy.deepcopy(kind), 3))
            self.assertEqual(kind, ahead)


class Calls(unittest.TestCase):

    def test_arguments_by_name(self):
        self.assertEqual(with_tie(other=1, one=0, kind=(4, 3, ())), 2)
        self.assertEqual(word_of(other=1, one=0, kind=(4, 3, ())), "some")
        self.assertEqual(numbers_at(place=0, kind=(4, 3, ())), ((0, 1), (2, 3)))

    def test_each_is_defined_in_its_file(self):
        for name in ("with_tie", "word_of", "numbers_at"):
            self.assertEqual(getattr(shared, name).__module__, "liftedties.shared")


if __name__ == "__main__":
    unittest.main()
