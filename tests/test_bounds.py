"""The bounds of the interface."""

import unittest

from liftedties import bounds

VALUES = {
    "MAX_PLACES": 12, "MAX_SMALL": 5, "MAX_ROWS": 12, "MAX_COLUMNS": 12, "MAX_NAMES": 6,
    "MAX_NAME": 8, "MAX_NEST": 20, "MAX_EDITS": 40, "BATCH": 12,
}


class Bounds(unittest.TestCase):

    def test_each_bound_has_its_value(self):
        for name, value in VALUES.items():
            with self.subTest(name):
                self.assertEqual(getattr(bounds, name), value)
                self.assertIs(type(getattr(bounds, name)), int)


if __name__ == "__main__":
    unittest.main()
