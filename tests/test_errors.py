"""The errors of the interface: their bases, their arguments and what they keep."""

import copy
import unittest

from liftedties import errors
from tests.samples import any_values

KEPT = {
    "Unfit": None, "BadText": None, "BadWeb": "error", "Barred": "place", "Apart": "paper", "NoLifts": None,
    "TooMany": "limit", "NoName": "given", "BadEdit": "error", "BadBatch": None, "Rejected": "index",
    "TooManyEdits": None, "NothingToUndo": None, "NothingToRedo": None, "NoVersion": "given", "BadLog": "place",
}
BARE = [name for name in KEPT if KEPT[name] is None]
LADEN = [(name, KEPT[name]) for name in KEPT if KEPT[name] is not None]


class Errors(unittest.TestCase):

    def test_there_are_sixteen_beside_the_common_one(self):
        self.assertEqual((len(KEPT), len(BARE), len(LADEN)), (16, 7, 9))

    def test_the_common_one_is_a_value_error(self):
        self.assertEqual(errors.TiesError.__bases__, (ValueError,))
        self.assertEqual(errors.TiesError.__module__, "liftedties.errors")

    def test_each_stands_directly_under_the_common_one(self):
        for name in KEPT:
            with self.subTest(name):
                kind = getattr(errors, name)
                self.assertEqual(kind.__bases__, (errors.TiesError,))
                self.assertEqual((kind.__name__, kind.__module__), (name, "liftedties.errors"))

    def test_none_is_caught_as_another_one(self):
        for name in KEPT:
            for other in KEPT:
                under = issubclass(getattr(errors, name), getattr(errors, other))
                self.assertEqual(under, name == other, (name, other))

    def test_those_without_an_argument(self):
        for name in BARE:
            with self.subTest(name):
                with self.assertRaises(getattr(errors, name)) as caught:
                    raise getattr(errors, name)()
                self.assertIs(type(caught.exception), getattr(errors, name))
                self.assertIsInstance(caught.exception, errors.TiesError)

    def test_the_argument_by_place_is_kept_just_as_it_was_passed(self):
        for name, word in LADEN:
            for value in any_values():
                made = getattr(errors, name)(value)
                self.assertIs(getattr(made, word), value, name)

    def test_the_argument_by_name_is_kept_just_as_it_was_passed(self):
        for name, word in LADEN:
            for value in any_values():
                made = getattr(errors, name)(**{word: value})
                self.assertIs(getattr(made, word), value, name)

    def test_what_is_kept_is_not_changed(self):
        for name, _ in LADEN:
            value = [1, {"a": [2]}, (3, [4])]
            ahead = copy.deepcopy(value)
            str(getattr(errors, name)(value))
            self.assertEqual(value, ahead)

    def test_an_error_belongs_to_itself_alone(self):
        for name, word in LADEN:
            first, second = getattr(errors, name)("first"), getattr(errors, name)("second")
            self.assertEqual((getattr(first, word), getattr(second, word)), ("first", "second"))

    def test_one_that_is_raised_is_caught_with_what_it_keeps(self):
        for name, word in LADEN:
            value = ("odd", [7])
            with self.assertRaises(errors.TiesError) as caught:
                raise getattr(errors, name)(value)
            self.assertIs(type(caught.exception), getattr(errors, name))
            self.assertIs(getattr(caught.exception, word), value)

    def test_copies_keep_the_same(self):
        for name, word in LADEN:
            for made in (getattr(errors, name)(("tie", 3)), getattr(errors, name)(**{word: ("tie", 3)})):
                self.assertEqual(getattr(copy.deepcopy(made), word), ("tie", 3))


if __name__ == "__main__":
    unittest.main()
