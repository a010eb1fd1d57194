"""[J1] to [J5] and [A2] (f): benches, their edits and asks, and how edits are taken back."""

import copy
import unittest

from liftedties import benches
from liftedties.benches import Bench
from liftedties.deeds import deed_error
from liftedties.errors import (
    Apart, BadBatch, BadEdit, BadWeb, NoName, NoVersion, NothingToRedo, NothingToUndo, Rejected, TiesError, TooMany,
    TooManyEdits, Unfit,
)
from liftedties.numbering import web_number
from liftedties.rowsbetween import row_holds
from liftedties.webs import web_error
from tests.samples import (
    FAR, HIGH, LOW, PATH, WING, all_webs, any_values, behind, by_kinds, deeds_of, empty_web, full_web, odd_in, pairs,
    striped_web,
)

STAR = (4, ((0, 1), (0, 2), (0, 3)))
CROSSED = (4, ((0, 2), (1, 2), (1, 3)))
NOTHING = object()
NAMES = ("a", "b", "c", "d", "e", "f")
WRONG_NAMES = ("", "A", "aB", "a1", "a b", " ", "a\n", "abcdefghi", "x" * 20000, "\u00e9", "a_b", "a-b", "{a}", "`", "@")


def state(bench):
    """All that a bench tells of itself, but what it remembers."""
    return (bench.names, bench.version, bench.log, [bench.at(version) for version in range(bench.version + 1)])


def back_and_on(bench):
    """The shelves and logs on the way back to no edit, and on to the last one that was taken back."""
    twin, told = bench.copy(), []
    while twin.version:
        twin.undo()
        told.append((twin.at(twin.version), twin.log))
    while True:
        try:
            twin.redo()
        except NothingToRedo:
            return told
        told.append((twin.at(twin.version), twin.log))


def laden(*webs):
    """A bench with these webs, by the names "a", "b" and so on."""
    bench = Bench()
    for name, web in zip(NAMES, webs):
        bench.keep(name, web)
    return bench


def full_bench(edits=40):
    """A bench with the name "a", of which so many edits stand."""
    bench = laden(PATH)
    for _ in range(edits - 1):
        bench.turn("a", (0, 1))
    return bench


class Benches(unittest.TestCase):

    def check_error(self, wanted, kept, call, *arguments):
        """The call raises an error of just this class that keeps this, and changes nothing."""
        with self.assertRaises(TiesError, msg=(call, arguments)) as caught:
            call(*arguments)
        self.assertIs(type(caught.exception), wanted, (call, arguments))
        self.assertEqual(tuple(vars(caught.exception).values()), () if kept is NOTHING else (kept,))
        return caught.exception

    def check_refused(self, bench, wanted, kept, call, *arguments):
        """The same, and the bench stays as it was, with all edits that were taken back."""
        ahead, way, made = state(bench), back_and_on(bench), bench.made
        error = self.check_error(wanted, kept, call, *arguments)
        self.assertEqual((state(bench), back_and_on(bench), bench.made), (ahead, way, made))
        return error


class Shelf(Benches):

    def test_the_examples_of_the_document(self):
        b = Bench()
        told = [b.keep("p", PATH), b.keep("star", STAR), b.names, b["p"] == PATH, b.version, b.parts("p", STAR)]
        self.assertEqual(told, [1, 2, ("p", "star"), True, 2, ("odd", 1)])
        self.assertEqual([b.many_like("p"), b.number_of("p"), b.many_like("p"), b.made], [2, 1, 2, 2])
        self.assertEqual([b.do("p", (0, 3, 1, 2)), b["p"], b.number_of("p"), b.made], [3, CROSSED, 0, 3])
        self.assertTrue(row_holds(CROSSED, PATH, b.walk("p", PATH)))
        told = [b.turn("star", (1, 2)), b["star"][1], b.turn("star", (0, 1)), b["star"][1], b.undo(), b.undo(), b["star"] == STAR]
        self.assertEqual(told, [4, ((0, 1), (0, 2), (0, 3), (1, 2)), 5, ((0, 2), (0, 3), (1, 2)), 4, 3, True])
        told = [b.batch((("drop", "p"), ("keep", "zed", PATH))), b.names, b.at(1) == (("p", PATH),), b.many_like("zed"), b.made]
        self.assertEqual(told, [4, ("star", "zed"), True, 2, 3])
        self.check_refused(b, BadEdit, "alike", b.do, "star", (0, 1, 2, 2))
        self.check_refused(b, BadEdit, "tie", b.turn, "star", (2, 1))
        self.check_refused(b, Rejected, 1, b.batch, (("drop", "zed"), ("drop", "zed")))
        self.check_refused(b, BadWeb, ("tie", 0), b.keep, "zed", (2, ((1, 0),)))
        self.check_refused(b, NoName, "p", b.walk, "p", PATH)

    def test_a_new_bench(self):
        b = Bench()
        self.assertEqual((b.names, b.version, b.log, b.made, b.at(0)), ((), 0, (), 0, ()))
        self.check_error(NoName, "p", b.__getitem__, "p")
        self.assertEqual(b, Bench())

    def test_properties_can_only_be_read(self):
        b = laden(PATH)
        for name in ("names", "version", "log", "made"):
            ahead = getattr(b, name)
            for value in (ahead, (), 0, None):
                with self.assertRaises(AttributeError):
                    setattr(b, name, value)
            self.assertEqual(getattr(b, name), ahead)
            self.assertIs(type(vars(Bench)[name]), property)

    def test_all_is_defined_in_the_class_itself(self):
        self.assertEqual(Bench.__module__, "liftedties.benches")
        self.assertIs(benches.Bench, Bench)
        for name in ("names", "version", "log", "made", "__getitem__", "__eq__", "keep", "drop", "do", "turn", "batch", "parts",
                     "walk", "many_like", "number_of", "undo", "redo", "at", "copy", "attempt"):
            self.assertIn(name, vars(Bench))

    def test_the_web_of_a_name(self):
        b = laden(PATH, STAR, WING)
        self.assertEqual((b["a"], b["b"], b["c"]), (PATH, STAR, WING))
        for value in [*any_values(), *WRONG_NAMES, "d", "aa", "A", ("a",), ["a"], {"a": PATH}, PATH, 0, True, b, Bench]:
            with self.assertRaises(NoName) as caught:
                b[value]
            self.assertIs(caught.exception.given, value)

    def test_names_ascend(self):
        b = Bench()
        for name in ("m", "b", "zz", "z", "aa", "a"):
            b.keep(name, PATH)
        self.assertEqual(b.names, ("a", "aa", "b", "m", "z", "zz"))
        self.assertEqual(b.at(6), tuple((name, PATH) for name in b.names))
        b.drop("m")
        self.assertEqual(b.names, ("a", "aa", "b", "z", "zz"))

    def test_equal_benches(self):
        one, other = laden(PATH, STAR), Bench()
        other.keep("b", LOW)
        other.keep("a", STAR)
        self.assertFalse(one == other)
        self.assertTrue(one != other)
        other.keep("b", STAR)
        other.keep("a", PATH)
        self.assertTrue(one == other)
        self.assertFalse(one != other)
        self.assertNotEqual(one.log, other.log)
        other.drop("a")
        self.assertNotEqual(one, other)
        other.undo()
        self.assertEqual(one, other)
        self.assertEqual(Bench(), laden(PATH) if laden(PATH).undo() else Bench())

    def test_a_bench_equals_nothing_else(self):
        class Anything:
            def __eq__(self, other):
                return True

        for bench in (Bench(), laden(PATH)):
            for value in [*any_values(), bench.at(bench.version), bench.log, bench.names, Bench, dict(bench.at(bench.version)), "Bench"]:
                if type(value) is not Bench:
                    self.assertIs(bench == value, False)
                    self.assertIs(bench != value, True)
            self.assertIs(bench == Anything(), False)
            self.assertIs(bench == bench, True)

    def test_benches_are_apart_from_one_another(self):
        one, other = Bench(), Bench()
        one.keep("a", PATH)
        one.many_like("a")
        self.assertEqual((other.names, other.version, other.made), ((), 0, 0))


class Keep(Benches):

    def test_a_name_gets_a_web_and_another_one(self):
        b = Bench()
        for version, web in enumerate((PATH, STAR, empty_web(1), full_web(12), PATH, PATH), start=1):
            self.assertEqual(b.keep("p", web), version)
            self.assertEqual((b.names, b["p"], b.version), (("p",), web, version))
            self.assertEqual(b.log[-1], ("keep", "p", web))

    def test_names_of_one_to_eight_small_letters(self):
        b = Bench()
        for name in ("a", "z", "abcdefgh", "zzzzzzzz", "keep", "form"):
            b.keep(name, PATH)
        self.assertEqual(len(b.names), 6)
        for value in [*WRONG_NAMES, *[value for value in any_values() if value != "form"], ("a",), ["a"], b"a"]:
            self.check_refused(b, Unfit, NOTHING, b.keep, value, PATH)
            self.check_refused(b, Unfit, NOTHING, b.keep, value, None)

    def test_values_that_are_no_webs(self):
        b = laden(PATH)
        b.undo()
        for value in any_values():
            self.check_refused(b, BadWeb, web_error(value), b.keep, "a", value)
        for value, error in (((2, ((1, 0),)), ("tie", 0)), ((3, ((1, 2), (0, 1))), ("order", 1)), ((True, ()), "form"),
                             ((13, ()), "form"), ([4, ()], "form"), ((4, [(0, 1)]), "form"), ((4, ((0, True),)), ("tie", 0))):
            self.check_refused(b, BadWeb, error, b.keep, "a", value)
            self.check_refused(b, Unfit, NOTHING, b.keep, "A", value)

    def test_six_names_and_a_seventh(self):
        b = laden(PATH, STAR, WING, LOW, HIGH, CROSSED)
        self.assertEqual(b.names, NAMES)
        self.check_refused(b, TooMany, 6, b.keep, "g", PATH)
        self.check_refused(b, BadWeb, "form", b.keep, "g", None)
        self.check_refused(b, Unfit, NOTHING, b.keep, "G", PATH)
        self.assertEqual(b.keep("f", PATH), 7)
        b.drop("a")
        self.assertEqual(b.keep("g", PATH), 9)
        self.assertEqual(b.names, ("b", "c", "d", "e", "f", "g"))


class OtherEdits(Benches):

    def test_drop(self):
        b = laden(PATH, STAR, WING)
        self.assertEqual((b.drop("b"), b.names, b.log[-1]), (4, ("a", "c"), ("drop", "b")))
        self.assertEqual((b["a"], b["c"]), (PATH, WING))
        for value in [*any_values(), "b", "A", ("a",), ["a"], b, PATH]:
            error = self.check_refused(b, NoName, value, b.drop, value)
            self.assertIs(error.given, value)

    def test_do(self):
        for web in (LOW, WING, PATH, striped_web(12, 3)):
            b = laden(STAR, web)
            for deed in deeds_of(web)[::max(1, len(deeds_of(web)) // 20)]:
                self.assertEqual((b.do("b", deed), b["b"], b["a"]), (3, behind(web, deed), STAR))
                self.assertEqual(b.log[-1], ("do", "b", deed))
                self.assertEqual((b.do("b", deed), b["b"]), (4, web))
                b.undo()
                b.undo()

    def test_values_that_are_no_deeds(self):
        b = laden(PATH, WING)
        some = [(0, 1, 2, 3), (0, 0, 1, 2), (2, 3, True, 0), (2, 3, 0, 1, 0), [2, 3, 0, 1], (0, 3, 1, 4), (5, 0, 1, 2), (2, 3, 0, -1)]
        for value in any_values() + some:
            error = deed_error(WING, value)
            self.assertIsNotNone(error)
            self.check_refused(b, BadEdit, error, b.do, "b", value)
            self.check_refused(b, NoName, "x", b.do, "x", value)
        for error in ("form", "alike", ("teller", 2), ("teller", 3)):
            self.assertIn(error, [deed_error(WING, value) for value in some])

    def test_turn(self):
        for many in (2, 4, 5):
            for pair in pairs(many):
                b = laden(empty_web(many), full_web(many))
                self.assertEqual((b.turn("a", pair), b["a"]), (3, (many, (pair,))))
                self.assertEqual((b.turn("a", pair), b["a"], b.log[-1]), (4, empty_web(many), ("turn", "a", pair)))
                self.assertEqual((b.turn("b", pair), b.turn("b", pair), b["b"]), (5, 6, full_web(many)))
                self.assertEqual(b.at(5)[1][1], (many, tuple(other for other in pairs(many) if other != pair)))
        b = laden(WING)
        for pair in pairs(5):
            b.turn("a", pair)
        self.assertEqual(b["a"], (5, tuple(pair for pair in pairs(5) if pair not in WING[1])))
        self.assertIsNone(web_error(b["a"]))

    def test_values_that_are_no_ties(self):
        b = laden(PATH, (1, ()))
        for value in any_values() + [(1, 0), (0, 0), (0, 4), (-1, 0), [0, 1], (0, 1, 2), (0, True), (False, 1), (0,), ("0", "1")]:
            if value != (0, 1) or [type(item) for item in value] != [int, int]:
                self.check_refused(b, BadEdit, "tie", b.turn, "a", value)
            self.check_refused(b, BadEdit, "tie", b.turn, "b", value)
            self.check_refused(b, NoName, "x", b.turn, "x", value)

    def test_any_name_comes_first(self):
        b = laden(PATH)
        for value in [value for value in any_values()] + ["b", "A"]:
            for call, rest in ((b.do, (0, 3, 1, 2)), (b.do, None), (b.turn, (0, 1)), (b.turn, None)):
                self.assertIs(self.check_refused(b, NoName, value, call, value, rest).given, value)

    def test_edits_that_leave_the_shelf_as_it_was(self):
        b = laden(PATH)
        self.assertEqual((b.keep("a", PATH), b.batch(()), b.batch((("turn", "a", (0, 1)),) * 2)), (2, 3, 4))
        self.assertEqual([b.at(version) for version in range(1, 5)], [(("a", PATH),)] * 4)
        self.assertEqual(b.log, (("keep", "a", PATH), ("keep", "a", PATH), ("batch", ()), ("batch", (("turn", "a", (0, 1)),) * 2)))


class Batch(Benches):

    def test_the_parts_are_done_one_behind_another_as_one_edit(self):
        b = laden(PATH)
        parts = (("keep", "z", LOW), ("do", "z", (2, 3, 0, 1)), ("turn", "a", (0, 3)), ("drop", "a"), ("keep", "a", WING))
        self.assertEqual(b.batch(parts), 2)
        self.assertEqual((b.names, b["z"], b["a"], b.log[-1]), (("a", "z"), HIGH, WING, ("batch", parts)))
        self.assertEqual((b.undo(), b.names, b["a"]), (1, ("a",), PATH))
        self.assertEqual((b.redo(), b["z"]), (2, HIGH))

    def test_none_to_twelve_parts(self):
        for many in range(16):
            b = laden(PATH)
            parts = (("turn", "a", (0, 3)),) * many
            if many > 12:
                self.check_refused(b, BadBatch, NOTHING, b.batch, parts)
            else:
                self.assertEqual((b.batch(parts), b.version, b["a"]), (2, 2, (4, PATH[1][:1] + ((0, 3),) + PATH[1][1:]) if many % 2 else PATH))

    def test_the_first_part_that_raises_an_error(self):
        right = ("turn", "a", (0, 3))
        wrong = [("drop", "x"), ("drop", None), ("keep", "A", PATH), ("keep", "a", None), ("do", "a", (0, 1, 2, 2)), ("do", "x", ()),
                 ("turn", "a", (3, 0)), ("turn", ["a"], (0, 1)), ("keep", {}, []), ("turn", "a", [0, 1])]
        b = laden(PATH)
        b.keep("c", STAR)
        b.undo()
        for part in wrong:
            for ahead in (0, 1, 11):
                self.check_refused(b, Rejected, ahead, b.batch, (right,) * ahead + (part,))
            self.check_refused(b, Rejected, 2, b.batch, (right, right, part, part, right))

    def test_a_part_is_done_to_what_those_ahead_of_it_have_made(self):
        b = Bench()
        self.check_refused(b, Rejected, 0, b.batch, (("drop", "a"), ("keep", "a", PATH)))
        self.assertEqual(b.batch((("keep", "a", PATH), ("drop", "a"))), 1)
        self.check_refused(b, Rejected, 6, b.batch, tuple(("keep", name, PATH) for name in (*NAMES, "g")))
        self.assertEqual(b.batch(tuple(("keep", name, PATH) for name in (*NAMES, "a"))), 2)
        self.check_refused(b, Rejected, 0, b.batch, (("keep", "g", PATH), ("drop", "a")))
        self.assertEqual(b.batch((("drop", "a"), ("keep", "g", PATH))), 3)

    def test_what_is_no_batch(self):
        b = laden(PATH)
        part = ("drop", "a")
        wrong = [[part], list(part), part, ("drop",), ("keep", "a", PATH), {0: part}, ([*part],), (part, list(part)), (part, ()), ((),),
                 (("drop",),), (("drop", "a", 1),), (("keep", "a"),), (("keep", "a", PATH, 1),), (("do", "a"),), (("turn", "a"),),
                 (("batch", ()),), (("batch", (part,)),), (("undo",),), (("redo", "a"),), (("Drop", "a"),), ((True, "a"),),
                 ((["drop"], "a"),), (({}, "a"),), ((None, "a"),), (part, "drop"), (part, None), (("names", "a"),), (("", "a"),)]
        for value in wrong + [value for value in any_values() if value not in ((), (("drop", "p"),))]:
            self.check_refused(b, BadBatch, NOTHING, b.batch, value)
        for value in any_values():
            self.check_refused(b, BadBatch, NOTHING, b.batch, (value,))
            self.check_refused(b, BadBatch, NOTHING, b.batch, (("drop", "x"), value))

    def test_any_values_as_arguments_of_parts(self):
        b = laden(PATH)
        for value in any_values():
            for part in (("drop", value), ("keep", "a", value), ("do", "a", value), ("do", value, (0, 3, 1, 2)),
                         ("turn", value, (0, 1)), ("keep", value, value), ("turn", value, value)):
                self.check_refused(b, Rejected, 1, b.batch, (("turn", "a", (0, 1)), part))

    def test_a_batch_that_is_no_batch_comes_ahead_of_its_wrong_parts(self):
        b = laden(PATH)
        self.check_refused(b, BadBatch, NOTHING, b.batch, (("drop", "x"), ("drop",)))
        self.check_refused(b, BadBatch, NOTHING, b.batch, (("drop", "x"),) * 13)
        self.check_refused(b, Rejected, 0, b.batch, (("drop", "x"),) * 12)


class FortyEdits(Benches):

    def test_forty_and_one_more(self):
        b = full_bench()
        self.assertEqual((b.version, len(b.log)), (40, 40))
        edits = [(b.keep, "a", PATH), (b.keep, "b", PATH), (b.drop, "a"), (b.do, "a", (0, 3, 1, 2)), (b.turn, "a", (0, 1)),
                 (b.batch, ()), (b.batch, (("turn", "a", (0, 1)),))]
        b.undo()
        b.keep("a", PATH)
        for call, *arguments in edits:
            self.check_refused(b, TooManyEdits, NOTHING, call, *arguments)
        b.undo()
        self.assertEqual(b.redo(), 40)
        b.undo()
        for call, *arguments in edits:
            self.assertEqual(call(*arguments), 40)
            self.assertEqual(b.undo(), 39)

    def test_behind_all_other_errors(self):
        b = full_bench()
        for wanted, kept, call, *arguments in (
            (Unfit, NOTHING, b.keep, "A", PATH), (BadWeb, "form", b.keep, "b", ()), (NoName, "x", b.drop, "x"),
            (NoName, "x", b.do, "x", (0, 3, 1, 2)), (BadEdit, "form", b.do, "a", ()), (BadEdit, "tie", b.turn, "a", (1, 0)),
            (NoName, None, b.turn, None, (0, 1)), (BadBatch, NOTHING, b.batch, None), (Rejected, 0, b.batch, (("drop", "x"),)),
        ):
            self.check_refused(b, wanted, kept, call, *arguments)

    def test_too_many_names_come_ahead_of_too_many_edits(self):
        b = laden(PATH, STAR, WING, LOW, HIGH, CROSSED)
        while b.version < 40:
            b.turn("a", (0, 1))
        self.check_refused(b, TooMany, 6, b.keep, "g", PATH)
        self.check_refused(b, TooManyEdits, NOTHING, b.keep, "f", PATH)

    def test_the_parts_of_a_batch_are_not_counted(self):
        b = full_bench(39)
        self.assertEqual(b.batch((("turn", "a", (0, 3)),) * 12), 40)
        self.check_refused(b, TooManyEdits, NOTHING, b.batch, (("turn", "a", (0, 3)),) * 12)
        self.check_refused(b, Rejected, 11, b.batch, (("turn", "a", (0, 3)),) * 11 + (("drop", "x"),))

    def test_asks_are_no_edits(self):
        b = full_bench()
        told = b.many_like("a"), b.number_of("a"), b.parts("a", b["a"]), b.walk("a", b["a"]), b.at(40), b.copy().version
        self.assertEqual((told[2:4], b.version, told[5]), ((None, ()), 40, 40))


class Asks(Benches):

    def test_parts_and_walk(self):
        b = laden(LOW, PATH, striped_web(12, 3))
        self.assertIsNone(b.parts("a", HIGH))
        self.assertTrue(row_holds(LOW, HIGH, b.walk("a", HIGH)))
        self.assertEqual((b.walk("b", PATH), b.parts("b", (4, ()))), ((), "ties"))
        self.assertEqual(self.check_refused(b, Apart, ("odd", 0), b.walk, "a", PATH).paper, b.parts("a", PATH))
        for call in (b.parts, b.walk):
            self.check_refused(b, Unfit, NOTHING, call, "a", WING)
            self.check_refused(b, Unfit, NOTHING, call, "c", PATH)

    def test_all_joined_webs_of_four_places(self):
        for (_, count, odd), webs in by_kinds(all_webs(4)).items():
            for one in webs[:2]:
                b = laden(one)
                for other in all_webs(4)[::5] + webs:
                    if len(other[1]) != count:
                        self.assertEqual(b.parts("a", other), "ties")
                    elif odd_in(other) != odd:
                        self.assertEqual(b.parts("a", other), ("odd", min(set(odd) ^ set(odd_in(other)))))
                    else:
                        self.assertIsNone(b.parts("a", other))
                        self.assertTrue(row_holds(one, other, b.walk("a", other)))

    def test_the_name_comes_ahead_of_the_web_and_the_web_ahead_of_the_rest(self):
        b = laden(PATH)
        for call in (b.parts, b.walk):
            for value in any_values():
                self.check_refused(b, BadWeb, web_error(value), call, "a", value)
                self.assertIs(self.check_refused(b, NoName, value, call, value, PATH).given, value)
                self.check_refused(b, NoName, "x", call, "x", value)
            self.check_refused(b, BadWeb, ("order", 1), call, "a", (5, ((1, 2), (0, 1))))
        for call in (b.many_like, b.number_of):
            for value in [*any_values(), "b", "A", PATH]:
                self.assertIs(self.check_refused(b, NoName, value, call, value).given, value)
        self.assertEqual(b.made, 0)

    def test_many_like_and_number_of(self):
        for webs in by_kinds(all_webs(4)).values():
            for web in webs:
                b = laden(web)
                self.assertEqual((b.many_like("a"), b.number_of("a"), b.made), (len(webs), web_number(web), 2))
        b = laden((12, ()), full_web(12), striped_web(12, 3))
        self.assertEqual((b.many_like("a"), b.number_of("b"), b.number_of("c")), (1, 0, web_number(striped_web(12, 3))))

    def test_what_is_remembered(self):
        b = laden(PATH, PATH, CROSSED)
        told = []
        for ask, name in ((b.many_like, "a"), (b.many_like, "b"), (b.number_of, "b"), (b.number_of, "a"), (b.many_like, "c"),
                          (b.number_of, "c"), (b.many_like, "a"), (b.number_of, "c")):
            ask(name)
            told.append(b.made)
        # PATH and CROSSED are of one kind, but they are two webs.
        self.assertEqual(told, [1, 1, 2, 2, 3, 4, 4, 4])

    def test_it_never_goes_back(self):
        b = laden(PATH)
        b.many_like("a")
        b.number_of("a")
        b.turn("a", (0, 3))
        self.assertEqual(b.made, 2)
        self.assertEqual((b.many_like("a"), b.made), (3, 3))
        b.undo()
        self.assertEqual((b.made, b.many_like("a"), b.made), (3, 2, 3))
        b.drop("a")
        b.keep("z", PATH)
        self.assertEqual((b.number_of("z"), b.made), (1, 3))
        self.check_error(NoName, "a", b.many_like, "a")
        b.undo()
        b.undo()
        b.redo()
        self.assertEqual(b.made, 3)
        with self.assertRaises(Rejected):
            b.batch((("drop", "x"),))
        self.assertEqual(b.made, 3)

    def test_asks_leave_what_was_taken_back(self):
        b = laden(PATH, STAR)
        b.undo()
        b.many_like("a")
        b.number_of("a")
        b.parts("a", STAR)
        b.walk("a", CROSSED)
        self.assertEqual((b.redo(), b.names), (2, ("a", "b")))


class BackAndOn(Benches):

    def test_undo_and_redo(self):
        b = laden(PATH, STAR, WING)
        shelves, logs = [b.at(version) for version in range(4)], [b.log[:version] for version in range(4)]
        for version in (2, 1, 0):
            self.assertEqual((b.undo(), b.version, b.log, b.at(version)), (version, version, logs[version], shelves[version]))
            self.assertEqual(b.names, tuple(name for name, _ in shelves[version]))
        self.check_refused(b, NothingToUndo, NOTHING, b.undo)
        for version in (1, 2, 3):
            self.assertEqual((b.redo(), b.version, b.log, b.at(version)), (version, version, logs[version], shelves[version]))
        self.check_refused(b, NothingToRedo, NOTHING, b.redo)

    def test_nothing_at_first(self):
        b = Bench()
        self.check_refused(b, NothingToUndo, NOTHING, b.undo)
        self.check_refused(b, NothingToRedo, NOTHING, b.redo)

    def test_an_edit_done_anew_forgets_all_that_were_taken_back(self):
        for edit in (lambda b: b.keep("b", STAR), lambda b: b.turn("a", (0, 1)), lambda b: b.do("a", (0, 3, 1, 2)),
                     lambda b: b.drop("a"), lambda b: b.batch(()), lambda b: b.keep("a", PATH)):
            b = laden(PATH, STAR, WING)
            b.undo()
            b.undo()
            self.assertEqual(edit(b), 2)
            self.check_refused(b, NothingToRedo, NOTHING, b.redo)

    def test_an_edit_that_raises_forgets_nothing(self):
        b = laden(PATH, STAR, WING)
        b.undo()
        b.undo()
        for call, *arguments in ((b.keep, "A", PATH), (b.drop, "b"), (b.do, "a", ()), (b.turn, "a", ()), (b.batch, None),
                                 (b.batch, (("drop", "b"),))):
            with self.assertRaises(TiesError):
                call(*arguments)
        self.assertEqual((b.redo(), b.redo(), b.names), (2, 3, ("a", "b", "c")))

    def test_all_forty_back_and_on(self):
        b = full_bench()
        ahead = state(b)
        for version in range(39, -1, -1):
            self.assertEqual(b.undo(), version)
        self.check_refused(b, NothingToUndo, NOTHING, b.undo)
        self.assertEqual(b, Bench())
        for version in range(1, 41):
            self.assertEqual(b.redo(), version)
        self.assertEqual(state(b), ahead)

    def test_at(self):
        b = laden(PATH, STAR)
        b.turn("a", (0, 3))
        turned = (4, ((0, 1), (0, 3), (1, 2), (2, 3)))
        self.assertEqual([b.at(version) for version in range(4)], [
            (), (("a", PATH),), (("a", PATH), ("b", STAR)), (("a", turned), ("b", STAR))])
        b.undo()
        for value in [value for value in any_values() if type(value) is not int] + [-1, 3, 4, FAR, -FAR, True, False, "0", (0,), [1], b]:
            self.assertIs(self.check_refused(b, NoVersion, value, b.at, value).given, value)
        self.assertEqual(b.at(2), (("a", PATH), ("b", STAR)))
        self.check_error(NoVersion, 1, Bench().at, 1)
        self.check_error(NoVersion, False, Bench().at, False)

    def test_what_at_and_log_return_does_not_change_later(self):
        b = laden(PATH, STAR)
        told = (b.at(2), b.log, b.names, b["a"])
        ahead = copy.deepcopy(told)
        b.turn("a", (0, 1))
        b.undo()
        b.undo()
        b.keep("z", WING)
        self.assertEqual(told, ahead)


class Copy(Benches):

    def test_a_copy_is_like_its_bench(self):
        b = laden(PATH, STAR, WING, LOW)
        b.many_like("a")
        b.number_of("b")
        b.undo()
        b.undo()
        twin = b.copy()
        self.assertIs(type(twin), Bench)
        self.assertIsNot(twin, b)
        self.assertEqual((twin, state(twin), back_and_on(twin), twin.made), (b, state(b), back_and_on(b), 2))
        self.assertEqual((twin.redo(), twin.redo(), twin["d"]), (3, 4, LOW))
        self.assertEqual((b.version, b.names), (2, ("a", "b")))

    def test_neither_changes_with_the_other(self):
        b = laden(PATH, STAR)
        b.undo()
        for first, last in ((b, b.copy()), (b.copy(), b)):
            ahead, way = state(last), back_and_on(last)
            first.turn("a", (0, 1))
            first.many_like("a")
            first.keep("z", WING)
            self.assertEqual((state(last), back_and_on(last), last.made), (ahead, way, 0 if last is not b else last.made))
            first.undo()
            first.undo()
            self.assertEqual((state(last), back_and_on(last)), (ahead, way))

    def test_what_is_remembered_at_first_and_later(self):
        b = laden(PATH, STAR)
        b.many_like("a")
        twin = b.copy()
        self.assertEqual((twin.made, twin.many_like("a"), twin.made), (1, 2, 1))
        twin.number_of("a")
        self.assertEqual((twin.made, b.made), (2, 1))
        b.many_like("b")
        b.number_of("b")
        self.assertEqual((twin.made, b.made), (2, 3))

    def test_a_copy_of_a_copy(self):
        b = full_bench()
        twin = b.copy().copy()
        self.assertEqual((twin, twin.log, twin.version), (b, b.log, 40))
        self.check_refused(twin, TooManyEdits, NOTHING, twin.drop, "a")
        self.assertEqual(Bench().copy(), Bench())


class Attempt(Benches):

    def work_that_raises(self, error):
        def work(bench):
            bench.undo()
            bench.turn("a", (0, 3))
            bench.keep("z", WING)
            bench.many_like("z")
            raise error
        return work

    def test_what_work_returns(self):
        b = laden(PATH)
        for value in (None, 0, (), [1], b, "x"):
            self.assertIs(b.attempt(lambda bench, value=value: value), value)
        self.assertIs(b.attempt(lambda bench: bench), b)
        self.assertEqual((b.attempt(lambda bench: bench.turn("a", (0, 3))), b.version), (2, 2))
        self.assertEqual((b.attempt(lambda bench: bench.undo()), b.attempt(lambda bench: bench.redo())), (1, 2))
        self.assertEqual(b.attempt(Bench.copy), b)

    def test_behind_a_ties_error_all_is_as_ahead(self):
        for error in (TiesError(), TiesError("x"), Unfit(), BadWeb([1]), NothingToRedo(), TooManyEdits(), NoName(None)):
            b = laden(PATH, STAR, LOW)
            b.undo()
            ahead, way = state(b), back_and_on(b)
            with self.assertRaises(TiesError) as caught:
                b.attempt(self.work_that_raises(error))
            self.assertIs(caught.exception, error)
            self.assertEqual((state(b), back_and_on(b)), (ahead, way))
            # What is remembered stays.
            self.assertEqual(b.made, 1)
            self.assertEqual((b.redo(), b.names), (3, ("a", "b", "c")))

    def test_errors_of_whatever_call(self):
        other = Bench()
        for work in (lambda bench: bench.keep("b", PATH) and bench["x"], lambda bench: bench.drop("a") and bench.drop("a"),
                     lambda bench: bench.undo() and bench.redo() and bench.redo() and bench.redo(), lambda bench: bench.drop("a") and other.undo(),
                     lambda bench: bench.turn("a", (0, 1)) and bench.at(99), lambda bench: bench.drop("a") and bench.walk("b", LOW)):
            b = laden(PATH, STAR, WING)
            b.undo()
            self.check_ahead(b, work, TiesError)

    def check_ahead(self, b, work, kind):
        ahead, way = state(b), back_and_on(b)
        with self.assertRaises(kind):
            b.attempt(work)
        self.assertEqual((state(b), back_and_on(b)), (ahead, way))

    def test_behind_any_other_error_what_was_done_stays(self):
        for error in (ValueError("x"), KeyError("p"), ZeroDivisionError(), TypeError(), RuntimeError(), StopIteration(), AttributeError()):
            b = laden(PATH, STAR, LOW)
            with self.assertRaises(type(error)) as caught:
                b.attempt(self.work_that_raises(error))
            self.assertIs(caught.exception, error)
            self.assertEqual((b.names, b.version, b["z"], b.made), (("a", "b", "z"), 4, WING, 1))
            self.check_refused(b, NothingToRedo, NOTHING, b.redo)
            self.assertEqual(b.undo(), 3)

    def test_an_exit_is_another_error(self):
        b = laden(PATH, STAR)
        with self.assertRaises(KeyboardInterrupt):
            b.attempt(self.work_that_raises(KeyboardInterrupt()))
        self.assertEqual((b.names, b.version), (("a", "z"), 3))

    def test_an_attempt_in_an_attempt(self):
        b = laden(PATH)

        def inner(bench):
            bench.keep("c", WING)
            bench.drop("a")
            raise Unfit()

        def outer(bench):
            bench.keep("b", STAR)
            ahead = state(bench)
            with self.assertRaises(Unfit):
                bench.attempt(inner)
            self.assertEqual(state(bench), ahead)
            return bench.attempt(lambda again: again.turn("b", (1, 2)))

        self.assertEqual((b.attempt(outer), b.names, b.version), (3, ("a", "b"), 3))
        self.assertEqual(b.log[1:], (("keep", "b", STAR), ("turn", "b", (1, 2))))

    def test_an_error_of_an_inner_attempt_that_goes_on(self):
        b = laden(PATH, STAR)
        b.undo()

        def inner(bench):
            bench.keep("c", WING)
            return bench["x"]

        def outer(bench):
            bench.turn("a", (0, 3))
            return bench.attempt(inner)

        self.check_ahead(b, outer, NoName)
        self.check_ahead(b, lambda bench: bench.attempt(lambda again: again.undo() or again.undo()), NothingToUndo)

    def test_another_error_in_an_inner_attempt(self):
        b = laden(PATH)

        def inner(bench):
            bench.keep("c", WING)
            raise KeyError("c")

        def outer(bench):
            bench.keep("b", STAR)
            try:
                bench.attempt(inner)
            except KeyError:
                pass
            self.assertEqual(bench.names, ("a", "b", "c"))
            raise Unfit()

        self.check_ahead(b, outer, Unfit)

    def test_what_work_catches_is_no_error(self):
        b = laden(PATH)

        def work(bench):
            bench.keep("b", STAR)
            try:
                bench.drop("x")
            except NoName:
                return "caught"

        self.assertEqual((b.attempt(work), b.names), ("caught", ("a", "b")))

    def test_other_benches_are_not_taken_back(self):
        b, other = laden(PATH), laden(PATH)

        def work(bench):
            other.drop("a")
            return bench["x"]

        self.check_ahead(b, work, NoName)
        self.assertEqual(other.names, ())


class Model:
    """What [J2] to [J5] say of edits, undo, redo and attempts, plainly: a list of shelves as dicts."""

    def __init__(self):
        self.steps, self.gone = [], []

    def shelf(self, version=None):
        steps = self.steps if version is None else self.steps[:version]
        return dict(steps[-1][1]) if steps else {}

    def part(self, shelf, word, name, *rest):
        if word == "keep":
            shelf[name] = rest[0]
        elif word == "drop":
            del shelf[name]
        elif word == "do":
            shelf[name] = behind(shelf[name], rest[0])
        else:
            many, ties = shelf[name]
            shelf[name] = (many, tuple(sorted(set(ties) ^ {rest[0]})))

    def edit(self, word, *arguments):
        shelf = self.shelf()
        for part in arguments[0] if word == "batch" else ((word, *arguments),):
            self.part(shelf, *part)
        self.steps.append(((word, *arguments), shelf))
        self.gone = []


class Wandering(Benches):

    def part(self, shelf, dice):
        """Some part of a batch, or edit, that can be done on the shelf."""
        names = sorted(shelf)
        name = names[dice % len(names)] if names else None
        if name is None or dice % 7 == 0 and len(names) < 6:
            return ("keep", NAMES[dice // 7 % 6] * (1 + dice % 3), (PATH, STAR, WING, LOW, striped_web(12, 5))[dice % 5])
        if dice % 11 == 0:
            return ("drop", name)
        deeds = deeds_of(shelf[name]) if shelf[name][0] < 6 else []
        if deeds and dice % 3:
            return ("do", name, deeds[dice % len(deeds)])
        return ("turn", name, pairs(shelf[name][0])[dice % len(pairs(shelf[name][0]))])

    def batch(self, model, dice):
        shelf, parts = model.shelf(), []
        for at in range(dice % 5):
            part = self.part(shelf, dice // (at + 2))
            if part[0] == "keep" and part[1] not in shelf and len(shelf) > 5:
                continue
            model.part(shelf, *part)
            parts.append(part)
        return ("batch", tuple(parts))

    def step(self, bench, model, dice):
        if dice % 13 == 0 and model.steps:
            model.gone.append(model.steps.pop())
            bench.undo()
        elif dice % 13 == 1 and model.gone:
            model.steps.append(model.gone.pop())
            bench.redo()
        elif len(model.steps) < 40:
            edit = self.batch(model, dice) if dice % 5 == 0 else self.part(model.shelf(), dice)
            model.edit(*edit)
            getattr(bench, edit[0])(*edit[1:])

    def check_like(self, bench, model):
        self.assertEqual(bench.log, tuple(edit for edit, _ in model.steps))
        self.assertEqual((bench.version, bench.names), (len(model.steps), tuple(sorted(model.shelf()))))
        for version in {0, bench.version // 2, bench.version}:
            self.assertEqual(bench.at(version), tuple(sorted(model.shelf(version).items())))

    def test_many_edits_back_and_on(self):
        dice = 1
        for _ in range(20):
            bench, model = Bench(), Model()
            for _ in range(90):
                dice = dice * 1103515245 % 2147483647
                self.step(bench, model, dice // 1000)
                self.check_like(bench, model)
            while bench.version:
                bench.undo()
                model.gone.append(model.steps.pop())
                self.check_like(bench, model)
            while model.gone:
                bench.redo()
                model.steps.append(model.gone.pop())
                self.check_like(bench, model)

    def test_edits_in_an_attempt_that_fails_are_as_if_never_done(self):
        dice = 7
        for _ in range(10):
            bench, model = Bench(), Model()
            for _ in range(30):
                dice = dice * 1103515245 % 2147483647
                self.step(bench, model, dice // 1000)
                ahead, way = state(bench), back_and_on(bench)

                def work(again, dice=dice):
                    scratch = copy.deepcopy(model)
                    for at in range(4):
                        self.step(again, scratch, dice // (1000 + 77 * at))
                    raise Unfit()

                with self.assertRaises(Unfit):
                    bench.attempt(work)
                self.assertEqual((state(bench), back_and_on(bench)), (ahead, way))


class Calls(Benches):

    def test_arguments_by_name(self):
        b = Bench()
        self.assertEqual((b.keep(web=PATH, name="a"), b.keep(name="b", web=STAR)), (1, 2))
        self.assertEqual((b.do(deed=(0, 3, 1, 2), name="a"), b["a"]), (3, CROSSED))
        self.assertEqual((b.turn(tie=(0, 1), name="b"), b.drop(name="b")), (4, 5))
        self.assertEqual(b.batch(edits=(("drop", "a"), ("keep", "a", PATH))), 6)
        self.assertEqual((b.parts(other=STAR, name="a"), b.walk(other=PATH, name="a")), (("odd", 1), ()))
        self.assertEqual((b.many_like(name="a"), b.number_of(name="a")), (2, 1))
        self.assertEqual((b.at(version=1), b.attempt(work=lambda bench: bench.version)), ((("a", PATH),), 6))

    def test_what_is_handed_in_is_not_changed(self):
        b = laden(PATH)
        for value in ([1, [2]], {"x": [1]}, ([0, 1], {"y": {}}), (4, [(0, 1)]), (["drop", "a"],)):
            ahead = copy.deepcopy(value)
            for call, arguments in ((b.keep, (value, value)), (b.keep, ("b", value)), (b.drop, (value,)), (b.do, ("a", value)),
                                    (b.turn, ("a", value)), (b.batch, (value,)), (b.batch, ((("keep", "b", value),),)),
                                    (b.parts, ("a", value)), (b.walk, ("a", value)), (b.many_like, (value,)), (b.at, (value,))):
                with self.assertRaises(TiesError):
                    call(*arguments)
                self.assertEqual(value, ahead)

    def test_the_log_holds_what_was_handed_in(self):
        web, parts = (4, ((0, 1), (1, 2))), (("keep", "b", PATH), ("drop", "b"))
        b = Bench()
        b.keep("a", web)
        b.batch(parts)
        self.assertEqual(b.log, (("keep", "a", web), ("batch", parts)))

    def test_an_error_keeps_what_was_handed_in(self):
        b = laden(PATH)
        for value in (["a"], {"a": 1}, ("a", ["b"])):
            self.assertIs(self.check_error(NoName, value, b.drop, value).given, value)
            self.assertIs(self.check_error(NoVersion, value, b.at, value).given, value)


if __name__ == "__main__":
    unittest.main()
