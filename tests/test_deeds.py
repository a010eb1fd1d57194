"""[B1] to [B5]: places told apart, deeds, rows of deeds and least namings."""

import copy
import unittest
from itertools import permutations, product

from liftedties import deeds as deeds_module
from liftedties.deeds import (
    all_deeds, all_lifts, deed_error, done, is_lift, least_naming, tellers, undone,
)
from liftedties.errors import Barred, TiesError
from liftedties.webs import numbers, odd_places, opposite
from tests.samples import (
    FAR, NET, PATH, all_webs, any_values, behind, deeds_of, empty_web, full_web, lifts_of, nested, renamed,
    striped_web, told_apart,
)

TINY = [web for many in (1, 2, 3) for web in all_webs(many)]
FOUR = all_webs(4)
SOME = FOUR + all_webs(5)[::11] + [striped_web(6, 3), striped_web(7, 5)]
TWELVE = [striped_web(12, 3), striped_web(12, 7)]


def plain_error(web, value):
    """What [B2] says of quadruples of integers."""
    if any(not 0 <= item < web[0] for item in value):
        return "form"
    if len(set(value)) < 4:
        return "alike"
    for at in (2, 3):
        if not told_apart(web, value[at], value[0], value[1]):
            return ("teller", at)
    return None


def least_namings(web, quadruples):
    """The least quadruple for each web to which these deeds lead, by going through them all."""
    least = {}
    for deed in sorted(quadruples):
        least.setdefault(behind(web, deed), deed)
    return least


class Tellers(unittest.TestCase):

    def test_the_examples_of_the_document(self):
        self.assertEqual(
            (tellers(NET, 0, 3), tellers(NET, 1, 2), tellers(NET, 1, 0), tellers(NET, 1, 3)),
            ((1, 2, 4), (), (2,), (0, 4)),
        )

    def test_those_that_are_tied_to_just_one(self):
        for web in TINY + SOME + TWELVE:
            for one, other in permutations(range(web[0]), 2):
                told = tuple(place for place in range(web[0]) if told_apart(web, place, one, other))
                self.assertEqual(tellers(web, one, other), told)

    def test_no_tie_and_all_ties_tell_nothing_apart(self):
        for many in range(2, 13):
            for web in (empty_web(many), full_web(many)):
                self.assertEqual(tellers(web, 0, many - 1), ())


class DeedError(unittest.TestCase):

    def test_the_examples_of_the_document(self):
        right = ((0, 3, 1, 2), (3, 0, 4, 1), (0, 1, 2, 3), (1, 2, 0, 3), (0, 0, 1, 2))
        self.assertEqual(
            [deed_error(NET, value) for value in right], [None, None, ("teller", 3), ("teller", 2), "alike"]
        )
        wrong = ((0, 3, 1, 5), (0, 3, 1), [0, 3, 1, 2], (0, 3, True, 2), (0, 3, 1, 1), None)
        self.assertEqual(
            [deed_error(NET, value) for value in wrong], ["form", "form", "form", "form", "alike", "form"]
        )

    def test_all_quadruples_of_few_places(self):
        for web in TINY + FOUR[::3]:
            for value in product(range(-1, web[0] + 1), repeat=4):
                self.assertEqual(deed_error(web, value), plain_error(web, value), (web, value))

    def test_quadruples_of_many_places(self):
        for web in TWELVE + [striped_web(7, 3)]:
            for value in permutations(range(web[0]), 4):
                self.assertEqual(deed_error(web, value), plain_error(web, value), (web, value))

    def test_webs_of_up_to_three_places_have_no_deed(self):
        for web in TINY:
            for value in product(range(web[0]), repeat=4):
                self.assertEqual(deed_error(web, value), "alike")

    def test_no_tie_and_all_ties_have_no_deed(self):
        for many in range(4, 13):
            for web in (empty_web(many), full_web(many)):
                self.assertEqual(deed_error(web, (0, 1, 2, 3)), ("teller", 2))
                self.assertEqual(deed_error(web, (many - 1, 0, 1, 2)), ("teller", 2))

    def test_places_that_the_web_does_not_have(self):
        for at in range(4):
            for item in (5, 6, 12, -1, -2, -5, FAR, -FAR, True, False, None, "1", "", (1,), [1], {}, {1: 1}, (), []):
                value = [0, 3, 1, 2]
                value[at] = item
                self.assertEqual(deed_error(NET, tuple(value)), "form", value)

    def test_true_is_not_one_and_false_is_not_nought(self):
        for value in ((False, 3, 1, 2), (0, 3, True, 2), (False, 3, True, 2), (0, 3, 2, True), (False, False, 1, 2)):
            self.assertEqual(deed_error(NET, value), "form")
        self.assertIsNone(deed_error(NET, (0, 3, 1, 2)))

    def test_values_that_are_no_quadruples(self):
        for value in ((), (0,), (0, 3), (0, 3, 1), (0, 3, 1, 2, 4), (0, 3, 1, 2, 0), [0, 3, 1, 2], "0312",
                      {0: 0, 3: 3, 1: 1, 2: 2}, ((0, 3, 1, 2),), ((0, 3), (1, 2)), ((0, 3, 1, 2),) * 4, 312,
                      [[0, 3, 1, 2]], nested(19, lambda value: (value,)), (0, 3, 1, 2) * 1000):
            self.assertEqual(deed_error(NET, value), "form", value)

    def test_any_value_that_is_no_deed(self):
        for web in (NET, PATH, (1, ()), empty_web(12), full_web(12), TWELVE[0]):
            for value in any_values():
                self.assertEqual(deed_error(web, value), "form", value)
        for value in any_values():
            if type(value) is not int:
                self.assertEqual(deed_error(NET, (0, 3, 1, value)), "form", value)
                self.assertEqual(deed_error(NET, (value, 3, 1, 2)), "form", value)

    def test_the_first_of_several_errors_is_told(self):
        self.assertEqual(deed_error(NET, (0, 0, 0, 5)), "form")
        self.assertEqual(deed_error(NET, (5, 5, 5, 5)), "form")
        self.assertEqual(deed_error(NET, (1, 2, 3, 3)), "alike")
        self.assertEqual(deed_error(NET, (1, 2, 1, 0)), "alike")
        self.assertEqual(deed_error(NET, (1, 2, 3, 4)), ("teller", 2))
        for value in ((0, 0, 1, 2), (0, 3, 0, 1), (0, 3, 1, 0), (0, 3, 3, 1), (0, 3, 1, 3), (0, 3, 1, 1)):
            self.assertEqual(deed_error(NET, value), "alike", value)

    def test_what_is_handed_in_is_not_changed(self):
        for value in ([0, 3, 1, 2], (0, 3, 1, [2]), {0: [3]}):
            ahead = copy.deepcopy(value)
            deed_error(NET, value)
            self.assertEqual(value, ahead)


class IsLift(unittest.TestCase):

    def test_the_examples_of_the_document(self):
        told = [is_lift(NET, deed) for deed in ((0, 3, 1, 2), (3, 0, 2, 1), (0, 3, 1, 4), (4, 0, 3, 2))]
        self.assertEqual(told, [True, True, False, False])

    def test_just_the_lifts_change_numbers(self):
        for web in SOME + TWELVE[:1]:
            lifts = set(lifts_of(web))
            for deed in deeds_of(web):
                self.assertIs(is_lift(web, deed), deed in lifts)
                self.assertEqual(deed in lifts, numbers(behind(web, deed)) != numbers(web))


class Done(unittest.TestCase):

    def check_barred(self, web, deeds, place):
        with self.assertRaises(TiesError) as caught:
            done(web, deeds)
        self.assertIs(type(caught.exception), Barred)
        self.assertEqual(caught.exception.place, place)
        self.assertIs(type(caught.exception.place), int)

    def test_the_examples_of_the_document(self):
        self.assertEqual(done(NET, ((0, 3, 1, 2),)), (5, ((1, 3), (2, 3), (3, 4))))
        self.assertEqual(done(NET, ((0, 3, 1, 4),)), (5, ((0, 2), (0, 4), (1, 3))))
        self.assertEqual(done(NET, ()), NET)
        both = ((0, 3, 1, 2), (3, 0, 4, 1))
        self.assertEqual(done(NET, both), (5, ((0, 1), (0, 4), (2, 3))))
        self.assertEqual(undone(both), ((3, 0, 4, 1), (0, 3, 1, 2)))
        self.assertEqual(done(done(NET, both), undone(both)), NET)
        self.check_barred(NET, ((0, 3, 1, 2), (0, 1, 2, 4)), 1)
        self.check_barred(NET, ((0, 3, 1, 9),), 0)

    def test_each_single_deed(self):
        for web in SOME + TWELVE[:1]:
            for deed in deeds_of(web):
                self.assertEqual(done(web, (deed,)), behind(web, deed))

    def test_no_deed_leaves_each_web(self):
        for web in TINY + FOUR + [empty_web(12), full_web(12)] + TWELVE:
            self.assertEqual(done(web, ()), web)

    def test_each_quadruple_that_is_no_deed_is_barred(self):
        for web in TINY + FOUR[::5]:
            for deed in product(range(-1, web[0] + 1), repeat=4):
                if plain_error(web, deed) is not None:
                    self.check_barred(web, (deed,), 0)

    def test_far_integers_and_integers_below_nought(self):
        first = (0, 3, 1, 2)
        for wrong in ((0, 3, 1, -1), (0, -2, 1, 2), (-5, 3, 1, 2), (0, 3, -4, 2), (0, 3, 1, -3), (0, 3, 1, 5),
                      (FAR, 3, 1, 2), (0, 3, 1, -FAR), (FAR, -FAR, FAR, FAR), (5, 6, 7, 8), (-1, -2, -3, -4)):
            self.check_barred(NET, (wrong,), 0)
            self.check_barred(NET, (first, wrong), 1)
            self.check_barred(NET, (first, first, wrong, first), 2)

    def test_the_first_one_that_cannot_be_done_is_told(self):
        deed, wrong = (0, 3, 1, 2), (0, 1, 2, 4)
        for place in range(6):
            self.check_barred(NET, (deed,) * place + (wrong,), place)
            self.check_barred(NET, (deed,) * place + (wrong, (0, 0, 0, 0), wrong, deed), place)
        self.check_barred(NET, (deed,) * 1500 + (wrong,) + (deed,) * 1500, 1500)

    def test_a_deed_is_asked_of_the_web_behind_those_ahead(self):
        later = (1, 4, 0, 2)
        self.assertEqual(plain_error(NET, later), ("teller", 3))
        ahead = next(deed for deed in deeds_of(NET) if plain_error(behind(NET, deed), later) is None)
        self.assertEqual(done(NET, (ahead, later)), behind(behind(NET, ahead), later))
        self.check_barred(NET, (later, ahead), 0)
        for first in deeds_of(NET):
            for second in deeds_of(NET):
                if plain_error(behind(NET, first), second) is None:
                    told = behind(behind(NET, first), second)
                    self.assertEqual(done(NET, (first, second)), told)
                else:
                    self.check_barred(NET, (first, second), 1)

    def test_long_rows(self):
        deed = (0, 3, 1, 2)
        self.assertEqual(done(NET, (deed,) * 2000), NET)
        self.assertEqual(done(NET, (deed,) * 2001), behind(NET, deed))
        web, row = TWELVE[0], []
        for step in range(1200):
            near = all_deeds(web)
            row.append(near[step * 7 % len(near)])
            web = behind(web, row[-1])
        self.assertEqual(done(TWELVE[0], tuple(row)), web)
        self.assertEqual(done(web, undone(tuple(row))), TWELVE[0])

    def test_a_barred_row_changes_nothing(self):
        web, row = (5, ((0, 1), (0, 2), (3, 4))), ((0, 3, 1, 2), (0, 1, 2, 4))
        self.check_barred(web, row, 1)
        self.check_barred(web, row, 1)
        self.assertEqual((web, row), (NET, ((0, 3, 1, 2), (0, 1, 2, 4))))


class Undone(unittest.TestCase):

    def test_the_same_in_contrary_order(self):
        self.assertEqual(undone(()), ())
        self.assertEqual(undone(((3, 0, 4, 1),)), ((3, 0, 4, 1),))
        row = ((0, 3, 1, 2), (3, 0, 4, 1), (FAR, -1, 0, 0))
        self.assertEqual(undone(row), ((FAR, -1, 0, 0), (3, 0, 4, 1), (0, 3, 1, 2)))
        self.assertIs(type(undone(row)), tuple)
        self.assertEqual(undone(undone(row)), row)


class Namings(unittest.TestCase):

    def test_the_examples_of_the_document(self):
        told = tuple(least_naming(NET, deed) for deed in ((3, 0, 2, 1), (1, 4, 3, 0), (4, 2, 3, 0)))
        self.assertEqual(told, ((0, 3, 1, 2), (0, 3, 1, 4), (0, 3, 2, 4)))
        self.assertEqual(
            all_deeds(NET),
            ((0, 3, 1, 2), (0, 3, 1, 4), (0, 3, 2, 4), (0, 4, 1, 2), (0, 4, 1, 3), (0, 4, 2, 3)),
        )
        both = (4, ((0, 1), (2, 3)))
        self.assertEqual(all_lifts(NET), ((0, 3, 1, 2), (0, 4, 1, 2)))
        self.assertEqual(all_deeds(both), ((0, 2, 1, 3), (0, 3, 1, 2)))
        self.assertEqual((all_lifts(both), all_deeds((3, ((0, 1),)))), ((), ()))

    def test_the_least_of_all_that_do_the_same(self):
        for web in SOME + TWELVE:
            every = deeds_of(web)
            least = least_namings(web, every)
            for deed in every[::1 if web[0] < 12 else 5]:
                self.assertEqual(least_naming(web, deed), least[behind(web, deed)])

    def test_all_deeds_and_all_lifts_once_each_and_ascending(self):
        for web in SOME + TWELVE + all_webs(5)[::3]:
            deeds, lifts = all_deeds(web), all_lifts(web)
            self.assertIs(type(deeds), tuple)
            self.assertIs(type(lifts), tuple)
            self.assertEqual(deeds, tuple(sorted(least_namings(web, deeds_of(web)).values())))
            self.assertEqual(lifts, tuple(sorted(least_namings(web, lifts_of(web)).values())))

    def test_a_lift_may_begin_with_the_greater_pair(self):
        low = (4, ((0, 1), (0, 2), (1, 2)))
        self.assertIn((2, 3, 0, 1), all_lifts(low))
        self.assertEqual(least_naming(low, (3, 2, 1, 0)), (2, 3, 0, 1))

    def test_webs_without_a_deed(self):
        for web in TINY + [make(many) for many in range(1, 13) for make in (empty_web, full_web)]:
            self.assertEqual((all_deeds(web), all_lifts(web)), ((), ()))


class WhatHolds(unittest.TestCase):

    def test_ties_and_odd_places_stay(self):
        for web in SOME + TWELVE:
            for deed in all_deeds(web):
                after = done(web, (deed,))
                self.assertNotEqual(after, web)
                self.assertEqual(len(after[1]), len(web[1]))
                self.assertEqual(odd_places(after), odd_places(web))

    def test_exchanges_keep_numbers_and_lifts_move_two(self):
        for web in SOME + TWELVE:
            for deed in all_deeds(web):
                moved = [new - old for new, old in zip(numbers(done(web, (deed,))), numbers(web))]
                if is_lift(web, deed):
                    self.assertEqual(sorted((moved[deed[0]], moved[deed[1]])), [-2, 2])
                    moved[deed[0]] = moved[deed[1]] = 0
                self.assertEqual(moved, [0] * web[0])

    def test_a_deed_done_twice_leaves_the_web(self):
        for web in SOME + TWELVE:
            for deed in all_deeds(web):
                self.assertEqual(done(web, (deed, deed)), web)
                self.assertEqual(done(done(web, (deed,)), (deed,)), web)

    def test_how_many_quadruples_do_the_same(self):
        for web in SOME:
            alike = {}
            for deed in permutations(range(web[0]), 4):
                if deed_error(web, deed) is None:
                    alike.setdefault(done(web, (deed,)), []).append(deed)
            for quadruples in alike.values():
                lifts = [is_lift(web, deed) for deed in quadruples]
                self.assertIn((len(lifts), sum(lifts)), ((4, 4), (8, 0)))
                self.assertEqual({least_naming(web, deed) for deed in quadruples}, {min(quadruples)})

    def test_opposites_have_the_same_deeds(self):
        for web in TINY + SOME + TWELVE:
            other = opposite(web)
            self.assertEqual(all_deeds(web), all_deeds(other))
            self.assertEqual(all_lifts(web), all_lifts(other))
            for deed in all_deeds(web):
                self.assertEqual(opposite(done(web, (deed,))), done(other, (deed,)))

    def test_places_called_otherwise(self):
        for web in SOME + [striped_web(9, 5)]:
            names = [(place * 2 + 1) % web[0] if web[0] % 2 else web[0] - 1 - place for place in range(web[0])]
            other = renamed(web, names)
            told = {least_naming(other, tuple(names[item] for item in deed)) for deed in all_deeds(web)}
            self.assertEqual(tuple(sorted(told)), all_deeds(other))


class Calls(unittest.TestCase):

    def test_arguments_by_name(self):
        deed = (0, 3, 1, 2)
        self.assertEqual(tellers(other=3, one=0, web=NET), (1, 2, 4))
        self.assertIsNone(deed_error(value=deed, web=NET))
        self.assertIs(is_lift(deed=deed, web=NET), True)
        self.assertEqual(done(deeds=(deed,), web=NET), behind(NET, deed))
        self.assertEqual(undone(deeds=(deed,)), (deed,))
        self.assertEqual(least_naming(deed=(3, 0, 2, 1), web=NET), deed)
        self.assertEqual(all_deeds(web=NET), all_deeds(NET))
        self.assertEqual(all_lifts(web=NET), all_lifts(NET))

    def test_each_is_defined_in_its_file(self):
        for name in ("tellers", "deed_error", "is_lift", "done", "undone", "least_naming", "all_deeds", "all_lifts"):
            self.assertEqual(getattr(deeds_module, name).__module__, "liftedties.deeds")


if __name__ == "__main__":
    unittest.main()
