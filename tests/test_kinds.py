"""[E1] to [E5] and [A2] (c): kinds, and which of them have webs."""

import copy
import unittest

from liftedties import kinds
from liftedties.errors import TiesError, Unfit
from liftedties.kinds import any_web, counts_for, has_webs, kind_error, kind_of
from liftedties.lonely import is_lonely
from liftedties.sizes import size_of
from liftedties.webs import web_error
from tests.samples import (
    FAR, NET, PATH, all_kinds, all_odd, all_webs, any_values, behind, deeds_of, empty_web, full_web, joined_pairs,
    kinds_by_numbers, led_by, nested, odd_in, opposed, pairs, ring, striped_web, web_with,
)

TOPS = {many: many * (many - 1) // 2 for many in range(1, 13)}
FEW = {kind: webs for many in (1, 2, 3, 4, 5) for kind, webs in all_kinds(many).items()}


def told_to_have_webs(kind):
    """What [E4] says, condition by condition."""
    many, count, odd = kind
    s = len(odd)
    t = s if many % 2 else many - s
    if s % 2:
        return False
    if count < s // 2 or count > TOPS[many] - t // 2:
        return False
    if s == 0 and count in (1, 2):
        return False
    return not (t == 0 and count in (TOPS[many] - 1, TOPS[many] - 2))


class KindOf(unittest.TestCase):

    def test_the_examples_of_the_document(self):
        self.assertEqual(kind_of((5, ((0, 1), (0, 2), (3, 4)))), (5, 3, (1, 2, 3, 4)))
        self.assertEqual((kind_of((1, ())), kind_of((3, ((0, 1), (0, 2), (1, 2))))), ((1, 0, ()), (3, 3, ())))

    def test_all_webs_of_up_to_five_places(self):
        for kind, webs in FEW.items():
            for web in webs:
                self.assertEqual(kind_of(web), kind)

    def test_no_tie_and_all_ties(self):
        for many in range(1, 13):
            self.assertEqual(kind_of(empty_web(many)), (many, 0, ()))
            odd = () if many % 2 else tuple(range(many))
            self.assertEqual(kind_of(full_web(many)), (many, TOPS[many], odd))

    def test_each_web_is_of_a_kind(self):
        for web in [striped_web(12, 3), striped_web(12, 5), web_with(12, ring(range(12))), (12, ((10, 11),)), PATH]:
            self.assertIsNone(kind_error(kind_of(web)))
            self.assertEqual(kind_of(web), (web[0], len(web[1]), odd_in(web)))


class KindError(unittest.TestCase):

    def check(self, value, wanted):
        told = kind_error(value)
        self.assertEqual((told, type(told)), (wanted, type(wanted)), value)

    def test_the_examples_of_the_document(self):
        values = ((4, 6, (0, 1)), (4, 0, (2,)), (4, 7, ()), (13, 0, ()), (4, 0, [0]), (4, True, ()), (4, -1, (9,)))
        self.assertEqual([kind_error(value) for value in values], [None, None, "count", "form", "form", "form", "count"])
        odds = ((0, 4), (1, 0), (1, 1), (0, True), (0, "1"))
        self.assertEqual([kind_error((4, 2, odd)) for odd in odds], [("odd", 1)] * 5)

    def test_all_kinds(self):
        for kind in FEW:
            self.check(kind, None)
        for many in range(6, 13):
            for kind in kinds_by_numbers(many):
                self.check(kind, None)
        for odd in all_odd(12)[::5]:
            self.check((12, 66, odd), None)

    def test_counts_beyond(self):
        for many, top in TOPS.items():
            for odd in ((), (0,), (many,), (None,), (0, 0), ([], {})):
                for count in (-1, -2, top + 1, top + 2, 67, FAR, -FAR):
                    self.check((many, count, odd), "count")
            self.check((many, 0, ()), None)
            self.check((many, top, ()), None)

    def test_numbers_of_places_beyond(self):
        for many in (0, -1, 13, 14, FAR, -FAR, True, False, None, "4", (4,), [4], 66):
            for rest in ((0, ()), (7, (9,)), (-1, (0, 0))):
                self.check((many, *rest), "form")

    def test_items_of_another_form(self):
        for count in (True, False, None, "3", (3,), [3], {}, "count"):
            self.check((4, count, ()), "form")
            self.check((4, count, (9, 9)), "form")
        for odd in ([], [0, 1], {}, {0: 1}, None, "01", 0, True, "", range(0)):
            self.check((4, 2, odd), "form")
            self.check((4, 7, odd), "form")
            self.check((4, -1, odd), "form")

    def test_values_that_are_no_triples(self):
        for value in ((), (4,), (4, 2), (4, 2, (), ()), [4, 2, ()], {4: 2}, ((4, 2, ()),), "42", None, (4, 2, (0, 1), None)):
            self.check(value, "form")

    def test_wrong_odd_places(self):
        right = (1, 3, 5, 8)
        for at in range(4):
            for item in (9, 10, 12, -1, -9, FAR, -FAR, True, False, None, "3", (), (3,), [3], [], {}, {3: 3}):
                self.check((9, 5, right[:at] + (item,) + right[at + 1:]), ("odd", at))
                self.check((9, 5, right[:at] + (item, item)), ("odd", at))
        for at in range(1, 4):
            for item in range(right[at - 1] + 1):
                self.check((9, 5, right[:at] + (item,) + right[at + 1:]), ("odd", at))
        self.check((9, 5, (1, 3, 4, 4)), ("odd", 3))
        self.check((9, 5, (8, 7, 6)), ("odd", 1))
        self.check((9, 5, (0, 2, 1, 9)), ("odd", 2))
        self.check((1, 0, (0,)), None)
        self.check((1, 0, (1,)), ("odd", 0))
        self.check((12, 5, tuple(range(13))), ("odd", 12))
        self.check((12, 5, (0,) * 3990), ("odd", 1))

    def test_true_is_not_one_and_false_is_not_nought(self):
        for value, wanted in (((True, 0, ()), "form"), ((1, False, ()), "form"), ((4, True, (9,)), "form"),
                              ((4, 2, (False, 1)), ("odd", 0)), ((4, 2, (0, True)), ("odd", 1)), ((2, 1, (0, 1)), None)):
            self.check(value, wanted)

    def test_any_value_that_is_no_kind(self):
        for value in any_values():
            self.check(value, "form")
            self.check((4, 2, (0, value)), None if type(value) is int and value == 1 else ("odd", 1))
            if type(value) is not int:
                self.check((value, 2, ()), "form")
                self.check((4, value, ()), "form")
            if type(value) is not tuple:
                self.check((4, 2, value), "form")

    def test_deeply_nested(self):
        self.check((4, 2, (nested(17, lambda value: (value,)),)), ("odd", 0))

    def test_what_is_handed_in_is_not_changed(self):
        value = [4, [2], {"x": [1]}]
        ahead = copy.deepcopy(value)
        kind_error(value)
        kind_error((4, 2, (value, value)))
        self.assertEqual(value, ahead)


class HasWebs(unittest.TestCase):

    def test_the_examples_of_the_document(self):
        some = ((4, 3, (0, 1)), (4, 0, (2,)), (4, 1, ()), (4, 3, ()), (4, 4, (0, 1, 2, 3)))
        self.assertEqual([has_webs(kind) for kind in some], [True, False, False, True, False])
        told = [counts_for(4, ()), counts_for(4, (1, 2)), counts_for(4, (0, 1, 2, 3)), counts_for(4, (3,)), counts_for(5, ())]
        self.assertEqual(told, [(0, 3, 4), (1, 2, 3, 4, 5), (2, 3, 6), (), (0, 3, 4, 5, 6, 7, 10)])
        told = [counts_for(1, ()), counts_for(2, ()), counts_for(2, (0, 1)), counts_for(12, ())[-3:], counts_for(11, ())[-3:]]
        self.assertEqual(told, [(0,), (0,), (1,), (58, 59, 60), (51, 52, 55)])

    def test_all_kinds_of_up_to_five_places(self):
        for kind, webs in FEW.items():
            self.assertIs(has_webs(kind), len(webs) > 0, kind)

    def test_kinds_of_up_to_twelve_places(self):
        for many in range(1, 13):
            for kind in kinds_by_numbers(many):
                self.assertIs(has_webs(kind), told_to_have_webs(kind), kind)

    def test_the_same_kinds_have_a_size(self):
        for many in range(1, 13):
            for kind in kinds_by_numbers(many):
                self.assertIs(has_webs(kind), size_of(kind) > 0, kind)

    def test_counts_of_all_odd_places(self):
        for many in (1, 2, 3, 4, 5):
            for odd in all_odd(many):
                told = tuple(count for count in range(TOPS[many] + 1) if FEW[many, count, odd])
                self.assertEqual(counts_for(many, odd), told)

    def test_counts_of_up_to_twelve_places(self):
        for many in range(6, 13):
            for odd in all_odd(many)[::23]:
                told = tuple(count for count in range(TOPS[many] + 1) if told_to_have_webs((many, count, odd)))
                self.assertEqual(counts_for(many, odd), told)

    def test_an_odd_number_of_odd_places(self):
        for many in range(1, 13):
            for number in range(1, many + 1, 2):
                self.assertEqual(counts_for(many, tuple(range(number))), ())
                self.assertEqual(counts_for(many, tuple(range(many - number, many))), ())

    def test_the_least_and_the_last_ones(self):
        self.assertEqual(counts_for(12, tuple(range(12))), tuple(range(6, 64)) + (66,))
        self.assertEqual(counts_for(12, ()), (0, *range(3, 61)))
        self.assertEqual(counts_for(11, ()), (0, *range(3, 53), 55))
        self.assertEqual(counts_for(12, tuple(range(2, 12))), tuple(range(5, 66)))
        self.assertEqual(counts_for(3, ()), (0, 3))
        self.assertEqual(counts_for(3, (0, 2)), (1, 2))
        self.assertEqual((counts_for(1, (0,)), counts_for(2, (1,))), ((), ()))


class AnyWeb(unittest.TestCase):

    def check(self, kind):
        """A right web, or Unfit() if there is none."""
        if told_to_have_webs(kind):
            web = any_web(kind)
            self.assertIsNone(web_error(web))
            self.assertEqual((web[0], len(web[1]), odd_in(web)), kind)
            self.assertEqual(kind_of(web), kind)
        else:
            with self.assertRaises(TiesError) as caught:
                any_web(kind)
            self.assertIs(type(caught.exception), Unfit)

    def test_the_examples_of_the_document(self):
        self.assertEqual(any_web((4, 5, (1, 2))), (4, ((0, 1), (0, 2), (1, 2), (1, 3), (2, 3))))
        self.assertEqual(kind_of(any_web((9, 17, (0, 4, 5, 8)))), (9, 17, (0, 4, 5, 8)))
        self.assertEqual(any_web((5, 0, ())), (5, ()))
        with self.assertRaises(Unfit):
            any_web((4, 1, ()))

    def test_all_kinds_of_up_to_five_places(self):
        for kind in FEW:
            self.check(kind)

    def test_kinds_of_up_to_twelve_places(self):
        for many in range(6, 13):
            for kind in kinds_by_numbers(many):
                self.check(kind)

    def test_no_tie_and_all_ties(self):
        for many in range(1, 13):
            self.assertEqual(any_web((many, 0, ())), empty_web(many))
            self.assertEqual(any_web(kind_of(full_web(many))), full_web(many))

    def test_equal_calls_get_equal_results_and_change_nothing(self):
        for kind in ((4, 3, ()), (9, 17, (0, 4, 5, 8)), (12, 33, (0, 11))):
            ahead = copy.deepcopy(kind)
            self.assertEqual(any_web(kind), any_web(copy.deepcopy(kind)))
            self.assertEqual(kind, ahead)


class WhatHolds(unittest.TestCase):

    def test_deeds_keep_the_kind_and_joined_webs_are_of_one(self):
        for web in all_webs(4) + all_webs(5)[::9]:
            for deed in deeds_of(web):
                self.assertEqual(kind_of(behind(web, deed)), kind_of(web))
        for one, other in joined_pairs(all_webs(4)):
            self.assertEqual(kind_of(one), kind_of(other))

    def test_rows_of_deeds_lead_to_all_webs_of_a_kind(self):
        for kind, webs in FEW.items():
            if kind[0] == 4 and webs:
                found, newest = {webs[0]}, {webs[0]}
                while newest:
                    newest = {led_by(web, (deed,)) for web in newest for deed in deeds_of(web)} - found
                    found |= newest
                self.assertEqual(found, set(webs))

    def test_kinds_of_opposites(self):
        for web in [web for many in (1, 2, 3, 4, 5) for web in all_webs(many)] + [striped_web(12, 5), NET]:
            many, count, odd = kind_of(web)
            there = odd if many % 2 else tuple(place for place in range(many) if place not in odd)
            self.assertEqual(kind_of(opposed(web)), (many, TOPS[many] - count, there))

    def test_half_as_many_ties_as_odd_places_are_lonely(self):
        for many in range(2, 13):
            for number in range(2, many + 1, 2):
                web = any_web((many, number // 2, tuple(range(many - number, many))))
                self.assertEqual(len({place for tie in web[1] for place in tie}), number)
                self.assertIs(is_lonely(web), True)
                self.assertIs(is_lonely(opposed(web)), True)


class Calls(unittest.TestCase):

    def test_arguments_by_name(self):
        self.assertEqual(kind_of(web=PATH), (4, 3, (0, 3)))
        self.assertIsNone(kind_error(value=(4, 3, (0, 3))))
        self.assertIs(has_webs(kind=(4, 3, (0, 3))), True)
        self.assertEqual(counts_for(odd=(), many=4), (0, 3, 4))
        self.assertEqual(any_web(kind=(5, 0, ())), (5, ()))

    def test_each_is_defined_in_its_file(self):
        for name in ("kind_of", "kind_error", "has_webs", "counts_for", "any_web"):
            self.assertEqual(getattr(kinds, name).__module__, "liftedties.kinds")

    def test_samples_are_what_they_are_meant_to_be(self):
        self.assertEqual(sum(len(webs) for webs in FEW.values()), sum(2 ** len(pairs(many)) for many in (1, 2, 3, 4, 5)))


if __name__ == "__main__":
    unittest.main()
