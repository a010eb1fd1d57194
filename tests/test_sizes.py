"""[F1], [F2] and [F4]: how many webs a kind has."""

import copy
import unittest
from math import comb

from liftedties import sizes
from liftedties.sizes import size_of, sizes_for
from tests.samples import all_kinds, all_odd, all_webs, by_kinds, kinds_by_numbers, pairs, plain_size

FEW = {kind: webs for many in (1, 2, 3, 4, 5) for kind, webs in all_kinds(many).items()}


def grown(known, m, e, s):
    """f(m, e, s) of [F4], as it is told there; known keeps what was found."""
    if m == 1:
        return int((e, s) == (0, 0))
    if s % 2 or e < 0 or s > m:
        return 0
    if (m, e, s) not in known:
        t = s - 1 if s > 0 else 0
        known[m, e, s] = sum(
            comb(t, x) * comb(m - 1 - t, y) * grown(known, m - 1, e - x - y, t - x + y)
            for x in range(t + 1) for y in range(m - t) if (x + y) % 2 == (s > 0)
        )
    return known[m, e, s]


class Sizes(unittest.TestCase):

    def test_the_examples_of_the_document(self):
        self.assertEqual(
            (sizes_for(4, ()), sizes_for(4, (0, 1)), sizes_for(4, (0, 1, 2, 3)), sizes_for(4, (2,)), sizes_for(1, ())),
            ((1, 0, 0, 4, 3, 0, 0), (0, 1, 2, 2, 2, 1, 0), (0, 0, 3, 4, 0, 0, 1), (0, 0, 0, 0, 0, 0, 0), (1,)),
        )
        told = [size_of((5, 5, ())), size_of((5, 4, (1, 3))), size_of((12, 66, tuple(range(12)))),
                size_of((12, 65, tuple(range(2, 12))))]
        self.assertEqual(told, [12, 13, 1, 1])
        self.assertEqual(size_of((12, 33, ())), 3525112666412160)
        self.assertEqual(size_of((12, 33, tuple(range(12)))), 3525112666412160)

    def check(self, kind, wanted):
        told = size_of(kind)
        self.assertEqual((told, type(told)), (wanted, int), kind)

    def test_all_kinds_of_up_to_five_places(self):
        for kind, webs in FEW.items():
            self.check(kind, len(webs))

    def test_all_webs_of_six_places(self):
        webs = by_kinds(all_webs(6))
        for odd in all_odd(6):
            told = tuple(len(webs.get((6, count, odd), ())) for count in range(16))
            self.assertEqual(sizes_for(6, odd), told)

    def test_kinds_of_up_to_twelve_places(self):
        known = {}
        for many in range(1, 13):
            for many, count, odd in kinds_by_numbers(many):
                self.check((many, count, odd), plain_size(many, count, len(odd)))
                self.assertEqual(plain_size(many, count, len(odd)), grown(known, many, count, len(odd)))

    def test_sizes_for_each_count(self):
        for many in range(1, 13):
            for number in range(many + 1):
                for odd in (tuple(range(number)), tuple(range(many - number, many))):
                    told = tuple(plain_size(many, count, number) for count in range(len(pairs(many)) + 1))
                    self.assertEqual(sizes_for(many, odd), told)
                    self.assertIs(type(sizes_for(many, odd)), tuple)

    def test_an_odd_number_of_odd_places(self):
        for many in range(1, 13):
            for number in range(1, many + 1, 2):
                self.assertEqual(sizes_for(many, tuple(range(number))), (0,) * (len(pairs(many)) + 1))

    def test_no_tie_and_all_ties(self):
        for many in range(1, 13):
            top, every = len(pairs(many)), tuple(range(many))
            for odd in ((), every):
                self.check((many, 0, odd), int(odd == ()))
                self.check((many, top, odd), int(odd == (() if many % 2 else every)))
        self.check((1, 0, (0,)), 0)
        self.check((12, 66, ()), 0)
        self.check((11, 55, ()), 1)


class WhatHolds(unittest.TestCase):

    def test_it_hangs_on_how_many_places_are_odd(self):
        for many in (6, 9, 12):
            by_number = {}
            for odd in all_odd(many)[::7]:
                by_number.setdefault(len(odd), set()).add(sizes_for(many, odd))
            self.assertEqual({len(told) for told in by_number.values()}, {1})

    def test_opposites_are_as_many(self):
        for many in range(1, 13):
            for number in range(0, many + 1, 2):
                odd = tuple(range(number))
                there = odd if many % 2 else tuple(range(number, many))
                self.assertEqual(sizes_for(many, odd)[::-1], sizes_for(many, there))

    def test_sums(self):
        for many in range(1, 13):
            total = 0
            for number in range(many + 1):
                told = sum(sizes_for(many, tuple(range(number))))
                self.assertEqual(told, 0 if number % 2 else 2 ** ((many - 1) * (many - 2) // 2))
                total += comb(many, number) * told
            self.assertEqual(total, 2 ** (many * (many - 1) // 2))

    def test_equal_calls_get_equal_results_and_change_nothing(self):
        for kind in ((4, 3, ()), (9, 17, (0, 4, 5, 8)), (12, 33, (0, 11))):
            ahead = copy.deepcopy(kind)
            self.assertEqual(size_of(kind), size_of(copy.deepcopy(kind)))
            self.assertEqual(sizes_for(kind[0], kind[2]), sizes_for(kind[0], copy.deepcopy(kind[2])))
            self.assertEqual(kind, ahead)


class Calls(unittest.TestCase):

    def test_arguments_by_name(self):
        self.assertEqual(size_of(kind=(5, 5, ())), 12)
        self.assertEqual(sizes_for(odd=(), many=4), (1, 0, 0, 4, 3, 0, 0))

    def test_each_is_defined_in_its_file(self):
        for name in ("size_of", "sizes_for"):
            self.assertEqual(getattr(sizes, name).__module__, "liftedties.sizes")


if __name__ == "__main__":
    unittest.main()
