"""[C1], [C4], [C5] and [A2] (a), (e): rows of deeds that lead from web to web, and their bounds."""

import copy
import unittest

from liftedties import rowsbetween
from liftedties.errors import Apart, TiesError, Unfit
from liftedties.nearing import nearer
from liftedties.rowsbetween import row_between, row_bounds, row_holds
from tests.samples import (
    FAR, HIGH, LEFT, LOW, NET, PATH, RIGHT, WING, all_webs, any_values, apart, behind, by_kinds, deeds_of, empty_web,
    full_web, joined_pairs, led_by, odd_in, opposed, pairs, renamed, ring, striped_web, wandered, web_with,
)

WALK = ((0, 3, 1, 2), (1, 4, 2, 3), (2, 5, 3, 4))
SMALL = [web for many in (1, 2, 3, 4) for web in all_webs(many)]
LARGE = [striped_web(12, step) for step in (3, 4, 5, 7)]


def between(first, second):
    """All ties from these places to those."""
    return tuple((one, other) for one in first for other in second)


def one_coloured():
    """Pairs of joined webs of twelve places, or fewer, whose pieces have one colour each."""
    five, others = (0, 1, 2, 3, 4), (7, 8, 9, 10, 11)
    lots = [
        (ring((0, 1, 2)), ring((3, 4, 5)), 6),
        (ring((0, 1, 2)), ring((9, 10, 11)), 12),
        (ring((0, 1, 2, 3)), ring((8, 9, 10, 11)), 12),
        (ring((0, 3, 1, 4, 2, 5)), ring((6, 9, 7, 11, 8, 10)), 12),
        (ring((0, 1, 2)) + ring((3, 4, 5)), ring((6, 7, 8)) + ring((9, 10, 11)), 12),
        (ring((0, 1, 2)) + ring((3, 4, 5)), ring((6, 7, 8, 9, 10, 11)), 12),
        (tuple((one, other) for one, other in pairs(12) if other in five),
         tuple((one, other) for one, other in pairs(12) if one in others), 12),
        (between((0, 1), (2, 3, 4, 5)), between((6, 7), (8, 9, 10, 11)), 12),
    ]
    told = []
    for red, blue, many in lots:
        for common in common_ties(red, blue, many):
            told.append((web_with(many, red, common), web_with(many, blue, common)))
    return told


def common_ties(red, blue, many):
    """Lots of ties that both webs may have beside these: none, all, and some in stripes."""
    free = [pair for pair in pairs(many) if pair not in red + blue]
    reds = {place for tie in red for place in tie}
    blues = {place for tie in blue for place in tie}
    across = [(one, other) for one, other in free if len({one, other} & reds) == len({one, other} & blues) == 1]
    lots = [[], free, across]
    for step in (2, 3):
        for rest in range(step):
            lots.append([(one, other) for one, other in across if one % step == rest])
            lots.append([(one, other) for one, other in across if (one + other) % step == rest])
    lots += [[(one, other) for one, other in across if one == place] for place in range(3)]
    return lots


class Rows(unittest.TestCase):

    def check(self, one, other):
        """A right row, told by row_between of two joined webs."""
        row = row_between(one, other)
        self.assertEqual(led_by(one, row), other, (one, other, row))
        self.assertLessEqual(len(row), 2 * apart(one, other))
        self.assertEqual(row == (), one == other)
        self.assertTrue(row_holds(one, other, row))
        return row

    def check_stuck(self, one, other):
        self.assertIsNone(nearer(one, other))
        self.assertNotEqual(one, other)
        self.check(one, other)
        self.check(other, one)
        self.check(opposed(one), opposed(other))


class RowBetween(Rows):

    def test_the_examples_of_the_document(self):
        self.assertIs(row_holds(LOW, HIGH, row_between(LOW, HIGH)), True)
        self.assertIs(row_holds(LEFT, RIGHT, row_between(LEFT, RIGHT)), True)
        self.assertEqual(row_between(LEFT, LEFT), ())
        with self.assertRaises(Apart) as caught:
            row_between((3, ((0, 1),)), (3, ((1, 2),)))
        self.assertEqual(caught.exception.paper, ("odd", 0))

    def test_all_joined_webs_of_up_to_five_places(self):
        for one, other in joined_pairs(SMALL + all_webs(5)):
            self.check(one, other)

    def test_webs_of_six_places_that_no_deed_brings_nearer(self):
        stuck = 0
        for lot in by_kinds(all_webs(6)[::3]).values():
            for other in lot[1:]:
                if nearer(lot[0], other) is None:
                    self.check(lot[0], other)
                    stuck += 1
        self.assertGreater(stuck, 50)

    def test_pieces_of_one_colour(self):
        for one, other in one_coloured():
            self.check_stuck(one, other)

    def test_each_place_is_tied_to_just_one_of_both(self):
        # The places 9, 10 and 11 are tied to 1 or 2, not to both; in the places of 0, 1 and 2 the ties take turns.
        for names in ((0, 1, 2), (1, 2, 0), (2, 0, 1), (1, 0, 2)):
            for bits in range(2 ** 6):
                ties = [tuple(sorted((names[1 + (bits >> at & 1)], 9 + at))) for at in range(3)]
                ties += [tuple(sorted((names[0], 9 + at))) for at in range(3) if bits >> 3 + at & 1]
                for many in (12, 9):
                    common = [(one, other - 12 + many) for one, other in ties]
                    blue = ring((many - 3, many - 2, many - 1))
                    self.check_stuck(web_with(many, ring((0, 1, 2)), common), web_with(many, blue, common))

    def test_many_deeds_away_among_twelve_places(self):
        for start in LARGE + [opposed(web) for web in LARGE] + [web_with(12, ring(range(12)))]:
            for turns in (1, 2, 3, 6, 60):
                web = wandered(start, turns)
                self.check(start, web)
                self.check(web, start)

    def test_one_web(self):
        for web in SMALL + LARGE + [empty_web(12), full_web(12), LEFT, WING, NET]:
            self.assertEqual(row_between(web, web), ())

    def test_no_tie_and_all_ties_are_joined_with_themselves_alone(self):
        for many in range(2, 13):
            for one, other in ((empty_web(many), full_web(many)), (full_web(many), empty_web(many))):
                with self.assertRaises(Apart) as caught:
                    row_between(one, other)
                self.assertEqual(caught.exception.paper, "ties")

    def test_equal_calls_get_equal_results_and_change_nothing(self):
        for one, other in one_coloured()[::5] + [(LOW, HIGH), (LEFT, RIGHT)]:
            ahead = copy.deepcopy((one, other))
            self.assertEqual(row_between(one, other), row_between(*copy.deepcopy(ahead)))
            self.assertEqual((one, other), ahead)


class Parted(unittest.TestCase):

    def test_webs_that_are_not_joined(self):
        webs = all_webs(4)
        for one in webs:
            for other in webs:
                ties = len(one[1]) != len(other[1])
                unlike = sorted(set(odd_in(one)) ^ set(odd_in(other)))
                if ties or unlike:
                    self.check(one, other, "ties" if ties else ("odd", unlike[0]))

    def test_webs_of_many_places_that_are_not_joined(self):
        self.check((12, ((9, 11),)), (12, ((10, 11),)), ("odd", 9))
        self.check((12, ((0, 1), (2, 3))), (12, ((0, 1), (2, 11))), ("odd", 3))
        self.check(web_with(12, ring((0, 1, 2))), web_with(12, ring((0, 1, 2, 3))), "ties")
        self.check((1, ()), (1, ()), None)

    def check(self, one, other, paper):
        if paper is None:
            self.assertEqual((row_between(one, other), row_bounds(one, other)), ((), (0, 0)))
            return
        for call in (row_between, row_bounds):
            with self.assertRaises(TiesError) as caught:
                call(one, other)
            self.assertIs(type(caught.exception), Apart)
            self.assertEqual(caught.exception.paper, paper)
        for value in ((), ((0, 1, 2, 3),), (((0, 1, 2, 3),) * 2), None, []):
            self.assertIs(row_holds(one, other, value), False)

    def test_any_value_holds_for_webs_that_are_not_joined_no_more_than_for_others(self):
        one, other = (4, ((0, 1), (0, 2))), (4, ((0, 1), (0, 3)))
        for value in any_values() + [((0, 1, 2, 3),)] + [(deed,) for deed in deeds_of(one)]:
            self.assertIs(row_holds(one, other, value), False)
            self.assertIs(row_holds(empty_web(12), full_web(12), value), False)

    def test_webs_of_unlike_numbers_of_places_are_unfit(self):
        webs = [empty_web(many) for many in range(1, 13)] + [full_web(3), full_web(12), PATH, WING]
        for one in webs:
            for other in webs:
                if one[0] != other[0]:
                    for call in (row_between, row_bounds, lambda one, other: row_holds(one, other, ()),
                                 lambda one, other: row_holds(one, other, None)):
                        with self.assertRaises(TiesError) as caught:
                            call(one, other)
                        self.assertIs(type(caught.exception), Unfit)


class RowHolds(unittest.TestCase):

    def test_the_examples_of_the_document(self):
        self.assertEqual(
            (row_holds(LEFT, RIGHT, WALK), row_holds(LEFT, RIGHT, WALK[:2]), row_holds(RIGHT, LEFT, WALK[::-1]),
             row_holds(LEFT, RIGHT, [WALK[0]])),
            (True, False, True, False),
        )

    def test_all_rows_of_up_to_two_deeds(self):
        # Two deeds lead from LOW to webs of all sorts; the deeds of another web come up, too.
        some = sorted(set(deeds_of(LOW) + deeds_of(HIGH)))
        rows = [()] + [(deed,) for deed in some] + [(first, last) for first in some for last in some]
        for other in (LOW, HIGH, (4, ((0, 2), (0, 3), (2, 3))), PATH):
            for row in rows:
                self.check(LOW, other, row, led_by(LOW, row) == other and len(row) <= 2 * apart(LOW, other))

    def check(self, one, other, value, wanted):
        self.assertIs(row_holds(one, other, value), wanted, (one, other, value))

    def test_no_more_deeds_than_two_for_each_tie_of_the_difference(self):
        turn = deeds_of(HIGH)[0]
        straight = next((deed,) for deed in deeds_of(LOW) if behind(LOW, deed) == HIGH)
        self.assertEqual(apart(LOW, HIGH), 4)
        for many in range(8):
            row = straight + (turn,) * many
            self.check(LOW, HIGH, row, many % 2 == 0)
        self.check(LOW, HIGH, straight + (turn,) * 8, False)
        round_about = next(
            (first, last) for first in deeds_of(LOW) for last in deeds_of(behind(LOW, first))
            if behind(behind(LOW, first), last) == HIGH
        )
        self.check(LOW, HIGH, round_about + (turn,) * 6, True)
        self.check(LOW, HIGH, round_about + (turn,) * 8, False)
        self.check(LOW, HIGH, straight * 3999, False)

    def test_one_web_is_held_by_no_deeds_alone(self):
        for web in (LOW, LEFT, (1, ()), empty_web(12), LARGE[0]):
            self.check(web, web, (), True)
            self.check(web, web, [], False)
            for deed in deeds_of(web)[:20]:
                self.check(web, web, (deed,), False)
                self.check(web, web, (deed, deed), False)

    def test_rows_in_another_form(self):
        self.check(LEFT, RIGHT, WALK, True)
        for value in (list(WALK), tuple(list(deed) for deed in WALK), (WALK,), (*WALK, ()), ((), *WALK), (None, *WALK),
                      (*WALK, None), {0: WALK}, {deed: None for deed in WALK}, WALK[0], "0312", WALK[0] + WALK[1],
                      (list(WALK[0]), *WALK[1:]), (WALK[0] + (0,), *WALK[1:]), (WALK[0][:3], *WALK[1:])):
            self.check(LEFT, RIGHT, value, False)

    def test_true_and_false_are_no_places(self):
        one, other = LOW, HIGH
        self.check(one, other, ((2, 3, 0, 1),), True)
        for deed in ((2, 3, False, 1), (2, 3, 0, True), (2, 3, False, True)):
            self.check(one, other, (deed,), False)

    def test_wrong_items_at_each_place(self):
        for at in range(3):
            for part in range(4):
                for item in (6, 12, -1, FAR, -FAR, True, False, None, "1", (), [], {}, (1,), WALK[at][part - 1]):
                    deed = WALK[at][:part] + (item,) + WALK[at][part + 1:]
                    self.check(LEFT, RIGHT, WALK[:at] + (deed,) + WALK[at + 1:], False)

    def test_any_value_that_is_no_row(self):
        for value in any_values():
            self.check(LEFT, RIGHT, value, False)
            self.check(LEFT, RIGHT, (value,), False)
            self.check(LEFT, RIGHT, (*WALK, value), False)
            self.check(LEFT, LEFT, value, value == () and type(value) is tuple)
            self.check((1, ()), (1, ()), value, value == () and type(value) is tuple)

    def test_what_is_handed_in_is_not_changed(self):
        value = [[0, 3, 1, 2], {"x": [1]}]
        ahead = copy.deepcopy(value)
        row_holds(LEFT, RIGHT, value)
        row_holds(LEFT, RIGHT, tuple(value))
        self.assertEqual(value, ahead)


class RowBounds(unittest.TestCase):

    def test_the_examples_of_the_document(self):
        self.assertEqual((row_bounds(LOW, HIGH), row_bounds(LEFT, RIGHT), row_bounds(LEFT, LEFT)),
                         ((1, 8), (3, 12), (0, 0)))

    def test_both_quarters_rounded_up(self):
        webs = joined_pairs(SMALL) + joined_pairs(all_webs(5)[::3]) + one_coloured()
        firsts = set()
        for one, other in webs:
            gaps = sum(abs(sum(place in tie for tie in one[1]) - sum(place in tie for tie in other[1]))
                       for place in range(one[0]))
            quarters = [-(-number // 4) for number in (apart(one, other), gaps)]
            firsts.add((quarters[0] > quarters[1]) - (quarters[0] < quarters[1]))
            self.assertEqual(row_bounds(one, other), (max(quarters), 2 * apart(one, other)))
        self.assertEqual(firsts, {-1, 0, 1})

    def test_quarters_that_are_not_whole(self):
        # Six red and blue ties: a quarter is one and a half, so two deeds at least.
        one, other = web_with(6, ring((0, 1, 2))), web_with(6, ring((2, 3, 4)))
        self.assertEqual((apart(one, other), row_bounds(one, other)), (6, (2, 12)))

    def test_the_greatest(self):
        one = web_with(12, [(one, other) for one, other in pairs(12) if other < 5], [(5, 6)])
        other = web_with(12, [(one, other) for one, other in pairs(12) if one > 6], [(5, 6)])
        self.assertEqual(row_bounds(one, other), (10, 40))


class WhatHolds(Rows):

    def test_rows_backwards_lead_back_and_hold_for_opposites(self):
        for one, other in joined_pairs(all_webs(4)) + joined_pairs(all_webs(5)) + one_coloured():
            row = row_between(one, other)
            self.assertTrue(row_holds(other, one, row[::-1]))
            self.assertTrue(row_holds(opposed(one), opposed(other), row))
            self.assertGreaterEqual(len(row), row_bounds(one, other)[0])

    def test_no_row_has_fewer_deeds_than_the_lower_bound(self):
        webs = all_webs(4) + all_webs(5)
        steps = {web: {behind(web, deed) for deed in deeds_of(web)} for web in webs}
        for lot in by_kinds(webs).values():
            for one in lot[::5]:
                far, newest = {one: 0}, [one]
                while newest:
                    newest = [there for web in newest for there in steps[web] if far.setdefault(there, None) is None]
                    for there in newest:
                        far[there] = min(far[web] for web in steps[there] if far.get(web) is not None) + 1
                # The webs that are joined are those of as many ties with the same odd places ([A2] (a)).
                self.assertEqual(sorted(far), sorted(lot))
                for other in lot:
                    low, high = row_bounds(one, other)
                    self.assertLessEqual(low, far[other])
                    self.assertLessEqual(far[other], high)

    def test_places_called_otherwise(self):
        for one, other in one_coloured()[::7] + [(LOW, HIGH), (LEFT, RIGHT)]:
            names = [one[0] - 1 - place for place in range(one[0])]
            self.check(renamed(one, names), renamed(other, names))
            self.assertEqual(row_bounds(renamed(one, names), renamed(other, names)), row_bounds(one, other))


class Calls(unittest.TestCase):

    def test_arguments_by_name(self):
        self.assertEqual(row_between(other=RIGHT, one=LEFT), row_between(LEFT, RIGHT))
        self.assertIs(row_holds(value=WALK, other=RIGHT, one=LEFT), True)
        self.assertEqual(row_bounds(other=RIGHT, one=LEFT), (3, 12))

    def test_each_is_defined_in_its_file(self):
        for name in ("row_between", "row_holds", "row_bounds"):
            self.assertEqual(getattr(rowsbetween, name).__module__, "liftedties.rowsbetween")


if __name__ == "__main__":
    unittest.main()
