"""[A2], [A3] and the interface, over the whole program."""

import copy
import importlib
import inspect
import unittest

from liftedties.benches import Bench
from liftedties.boarddeeds import board_done
from liftedties.deeds import done
from liftedties.errors import TiesError
from tests.boardsamples import HIGH as HIGH_BOARD, LOW as LOW_BOARD, behind as board_behind, row_deeds_of
from tests.samples import HIGH, LEFT, LOW, NET, PATH, RIGHT, any_values, behind, deeds_of

CROSSED = (4, ((0, 2), (1, 2), (1, 3)))
KIND = (5, 4, (0, 1))
LOG = (("keep", "p", PATH), ("turn", "p", (0, 3)), ("batch", (("drop", "p"),)))
# By modules: each name with the names of its arguments, as the headings of the document tell them, and some arguments.
INTERFACE = {
    "webs": {
        "web_error": ("value", (4, [(0, 1)])), "row_of": ("web", PATH), "web_of": ("many row", 4, (1, 0, 0, 1, 0, 1)),
        "is_tied": ("web place mate", PATH, 1, 0), "neighbours": ("web place", PATH, 1), "numbers": ("web", PATH),
        "odd_places": ("web", PATH), "opposite": ("web", PATH),
    },
    "webtexts": {"web_text": ("web", PATH), "read_web": ("value", "4: 0-1 1-2 2-3")},
    "deeds": {
        "tellers": ("web one other", NET, 0, 3), "deed_error": ("web value", NET, [0, 3, 1, 2]),
        "is_lift": ("web deed", NET, (0, 3, 1, 4)), "done": ("web deeds", NET, ((0, 3, 1, 2), (3, 0, 4, 1))),
        "undone": ("deeds", ((0, 3, 1, 2), (3, 0, 4, 1))), "least_naming": ("web deed", NET, (3, 0, 2, 1)),
        "all_deeds": ("web", NET), "all_lifts": ("web", NET),
    },
    "joining": {"parting": ("one other", PATH, LOW), "difference": ("one other", LOW, HIGH), "pieces": ("one other", LEFT, RIGHT)},
    "nearing": {"nearer": ("one other", LOW, HIGH)},
    "rowsbetween": {
        "row_between": ("one other", LEFT, RIGHT), "row_holds": ("one other value", LOW, HIGH, ((2, 3, 0, 1),)),
        "row_bounds": ("one other", LEFT, RIGHT),
    },
    "lonely": {"is_lonely": ("web", PATH)},
    "liftrows": {
        "by_lifts": ("web deed", (5, ((0, 1), (0, 4), (2, 3))), (0, 3, 1, 2)), "lifts_join": ("one other", LOW, HIGH),
        "lift_row": ("one other", LEFT, RIGHT),
    },
    "kinds": {
        "kind_of": ("web", PATH), "kind_error": ("value", (4, 2, (0, [4]))), "has_webs": ("kind", KIND), "counts_for": ("many odd", 4, (1, 2)),
        "any_web": ("kind", KIND),
    },
    "sizes": {"size_of": ("kind", KIND), "sizes_for": ("many odd", 4, (0, 1))},
    "numbering": {"web_at": ("kind value", KIND, 7), "web_number": ("web", PATH)},
    "shared": {
        "with_tie": ("kind one other", KIND, 0, 2), "word_of": ("kind one other", KIND, 2, 3), "numbers_at": ("kind place", KIND, 1),
    },
    "waves": {
        "fewest": ("one other", LOW, HIGH), "fewest_row": ("one other", LOW, HIGH), "fewest_lifts": ("one other", PATH, CROSSED),
        "farthest": ("web", LOW),
    },
    "boards": {
        "board_error": ("value", ((0, 1), (2, [1]))), "column_sums": ("board", LOW_BOARD), "odd_rows": ("board", LOW_BOARD),
        "cells_apart": ("one other", LOW_BOARD, HIGH_BOARD),
    },
    "boarddeeds": {
        "row_deed_error": ("board value", LOW_BOARD, (0, 1, 0, 1)), "board_done": ("board deeds", LOW_BOARD, ((0, 1, 0, 2), (0, 2, 1, 2))),
    },
    "boardrows": {"board_parting": ("one other", LOW_BOARD, HIGH_BOARD[::-1]), "board_row": ("one other", LOW_BOARD, HIGH_BOARD)},
    "boardsizes": {
        "board_size": ("many sums odd", 3, (2, 2), (0, 1)), "board_at": ("many sums odd value", 3, (2, 2), (0, 1), 1),
        "board_number": ("board", LOW_BOARD),
    },
    "logs": {"log_text": ("edits", LOG), "read_log": ("value", "(drop,p)\n(batch,())\n"), "bench_behind": ("edits", LOG)},
}
# Those with an argument that may be any value, and what stands ahead of it.
TAKE_ANY = {
    "webs": {"web_error": ()}, "webtexts": {"read_web": ()}, "deeds": {"deed_error": (NET,)}, "rowsbetween": {"row_holds": (LEFT, RIGHT)},
    "kinds": {"kind_error": ()}, "numbering": {"web_at": (KIND,)}, "boards": {"board_error": ()}, "boarddeeds": {"row_deed_error": (LOW_BOARD,)},
    "boardsizes": {"board_at": (3, (2, 2), (0, 1))}, "logs": {"read_log": ()},
}
METHODS = {
    "keep": ("name web", "p", PATH), "drop": ("name", "p"), "do": ("name deed", "p", (0, 3, 1, 2)), "turn": ("name tie", "p", (0, 3)),
    "batch": ("edits", (("drop", "p"),)), "parts": ("name other", "p", LOW), "walk": ("name other", "p", CROSSED), "many_like": ("name", "p"),
    "number_of": ("name", "p"), "undo": ("",), "redo": ("",), "at": ("version", 1), "copy": ("",), "attempt": ("work", Bench.undo),
}


def listed():
    """All functions of the interface, with the names of their arguments and some arguments."""
    for module, names in INTERFACE.items():
        for name, (words, *arguments) in names.items():
            yield getattr(importlib.import_module("liftedties." + module), name), words.split(), arguments


def benched():
    """A bench with a name, of which an edit was taken back."""
    b = Bench()
    b.keep("p", PATH)
    b.keep("q", LOW)
    b.undo()
    return b


def outcome(call, *arguments, **named):
    """What the call returns, or the error that it raises with what this keeps."""
    try:
        return call(*arguments, **named)
    except TiesError as error:
        return (type(error), tuple(vars(error).values()))


def plain(value):
    """The value as a text that tells all that could be changed in it."""
    if isinstance(value, (list, tuple)):
        return f"{type(value).__name__}({','.join(plain(item) for item in value)})"
    if isinstance(value, dict):
        return f"dict({','.join(f'{key!r}:{plain(value[key])}' for key in value)})"
    if isinstance(value, (Bench, TiesError)):
        return f"{type(value).__name__}{plain(vars(value))}"
    return repr(value)


def never_changes(value):
    """Whether nothing in it can be changed."""
    if type(value) is tuple:
        return all(never_changes(item) for item in value)
    return value is None or type(value) in (int, str, bool)


class Interface(unittest.TestCase):

    def test_each_is_a_function_of_its_file(self):
        for module, names in INTERFACE.items():
            for name in names:
                call = getattr(importlib.import_module("liftedties." + module), name)
                self.assertTrue(inspect.isfunction(call))
                self.assertEqual((call.__name__, call.__module__), (name, "liftedties." + module))

    def test_the_names_of_the_arguments(self):
        for call, words, _ in listed():
            self.assertEqual(list(inspect.signature(call).parameters), words, call.__name__)
        for name, (words, *_) in METHODS.items():
            self.assertEqual(list(inspect.signature(vars(Bench)[name]).parameters), ["self", *words.split()], name)

    def test_calls_by_names_tell_what_calls_by_place_tell(self):
        for call, words, arguments in listed():
            by_place = outcome(call, *arguments)
            self.assertEqual(outcome(call, **dict(zip(words, arguments))), by_place, call.__name__)
            self.assertEqual(outcome(call, **dict(list(zip(words, arguments))[::-1])), by_place, call.__name__)

    def test_methods_by_names_tell_what_methods_by_place_tell(self):
        for name, (words, *arguments) in METHODS.items():
            one, other = benched(), benched()
            told = outcome(getattr(one, name), *arguments)
            self.assertEqual(outcome(getattr(other, name), **dict(list(zip(words.split(), arguments))[::-1])), told)
            self.assertEqual((one, one.log, one.made), (other, other.log, other.made))


class Unchanged(unittest.TestCase):

    def test_what_is_handed_in_is_never_changed(self):
        for call, _, arguments in listed():
            ahead = copy.deepcopy(arguments)
            outcome(call, *arguments)
            self.assertEqual(plain(arguments), plain(ahead), call.__name__)

    def test_any_value_is_never_changed(self):
        values = any_values()
        ahead = plain(values)
        for module, names in TAKE_ANY.items():
            for name, rest in names.items():
                for value in values:
                    outcome(getattr(importlib.import_module("liftedties." + module), name), *rest, value)
        b = benched()
        for name in METHODS:
            for value in values:
                many = len(inspect.signature(getattr(b, name)).parameters)
                if name != "attempt" and many > 0:
                    outcome(getattr(b, name), *(value,) * many)
                    outcome(getattr(b, name), *("p", value)[-many:])
        self.assertEqual(plain(values), ahead)

    def test_nothing_that_is_returned_can_change(self):
        for call, _, arguments in listed():
            told = outcome(call, *arguments)
            self.assertTrue(type(told) is Bench or never_changes(told), call.__name__)
        for name, (_, *arguments) in METHODS.items():
            told = outcome(getattr(benched(), name), *arguments)
            self.assertTrue(type(told) is Bench if name == "copy" else never_changes(told), name)

    def test_equal_calls_get_equal_results_whatever_comes_between(self):
        first = [outcome(call, *arguments) for call, _, arguments in listed()]
        again = [outcome(call, *copy.deepcopy(arguments)) for call, _, arguments in list(listed())[::-1]]
        self.assertEqual(first, again[::-1])

    def test_a_list_that_changes_later_changes_nothing(self):
        b, value = benched(), ["p"]
        for call in (b.drop, b.many_like, b.at, b.batch):
            outcome(call, value)
        outcome(b.keep, "r", (4, value))
        outcome(b.batch, (("keep", "r", value), ("drop", value)))
        ahead = (b.names, b.log, b.at(1), b.redo(), b.at(2))
        value.append("q")
        b.undo()
        self.assertEqual((b.names, b.log, b.at(1), b.redo(), b.at(2)), ahead)


class WhatHolds(unittest.TestCase):

    def test_a_deed_done_twice_leaves_all_as_it_was(self):
        for web in (LOW, NET, LEFT):
            for deed in deeds_of(web):
                self.assertEqual((done(web, (deed,)), done(web, (deed, deed))), (behind(web, deed), web))
        for deed in row_deeds_of(LOW_BOARD):
            told = (board_done(LOW_BOARD, (deed,)), board_done(LOW_BOARD, (deed, deed)))
            self.assertEqual(told, (board_behind(LOW_BOARD, deed), LOW_BOARD))

    def test_true_is_not_one(self):
        for module, name, right, wrong in (
            ("webs", "web_error", (2, ((0, 1),)), (2, ((False, True),))), ("webs", "web_error", (1, ()), (True, ())),
            ("kinds", "kind_error", (2, 1, (0, 1)), (2, True, (0, 1))), ("kinds", "kind_error", (2, 1, (0, 1)), (2, 1, (False, True))),
            ("boards", "board_error", ((0, 1),), ((False, True),)),
        ):
            call = getattr(importlib.import_module("liftedties." + module), name)
            self.assertEqual(right, wrong)
            for _ in range(2):
                self.assertIsNone(call(right))
                self.assertIsNotNone(call(wrong))

    def test_edits_taken_back_leave_shelf_version_and_log_as_they_were(self):
        b = benched()
        ahead = (b.at(b.version), b.version, b.log, b.names)
        for edit in LOG:
            getattr(b, edit[0])(*edit[1:])
        for _ in LOG:
            b.undo()
        self.assertEqual((b.at(b.version), b.version, b.log, b.names), ahead)


if __name__ == "__main__":
    unittest.main()
