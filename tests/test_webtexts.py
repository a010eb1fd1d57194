"""[A7]: the texts of webs."""

import copy
import unittest

from liftedties import webtexts
from liftedties.errors import BadText, TiesError
from liftedties.webtexts import read_web, web_text
from tests.samples import PATH, WING, all_webs, any_values, empty_web, full_web, striped_web

WEBS = [web for many in (1, 2, 3, 4) for web in all_webs(many)] + [
    make(many) for many in range(1, 13) for make in (empty_web, full_web)
] + [striped_web(many, step) for many in (9, 11, 12) for step in (3, 5, 7)]
SIGNS = "0123456789:-, +_.\nax"


def plain_text(web):
    return str(web[0]) + ":" + "".join(" " + str(one) + "-" + str(other) for one, other in web[1])


class WebText(unittest.TestCase):

    def test_the_examples_of_the_document(self):
        self.assertEqual(web_text(PATH), "4: 0-1 1-2 2-3")
        self.assertEqual(web_text((1, ())), "1:")

    def test_many_and_each_tie_in_decimal(self):
        for web in WEBS:
            self.assertEqual(web_text(web), plain_text(web))
        self.assertEqual(web_text((12, ((0, 10), (9, 11), (10, 11)))), "12: 0-10 9-11 10-11")

    def test_each_text_is_read_again(self):
        for web in WEBS + all_webs(5)[::5]:
            self.assertEqual(read_web(web_text(web)), web)


class ReadWeb(unittest.TestCase):

    def check_bad(self, value):
        with self.assertRaises(TiesError, msg=repr(value)[:80]) as caught:
            read_web(value)
        self.assertIs(type(caught.exception), BadText, repr(value)[:80])

    def test_the_examples_of_the_document(self):
        self.assertEqual(read_web("4: 0-1 1-2 2-3"), PATH)
        self.assertEqual(read_web("12:"), (12, ()))
        for value in ("4: 0-1 1-2 2-3 ", "4: 1-2 0-1", "04: 0-1"):
            self.check_bad(value)

    def test_what_is_read_is_a_web_of_integers_and_tuples(self):
        many, ties = read_web("5: 0-1 0-2 1-2 2-3 2-4")
        self.assertEqual((many, ties), WING)
        self.assertIs(type(many), int)
        self.assertIs(type(ties), tuple)
        for tie in ties:
            self.assertEqual((type(tie), type(tie[0]), type(tie[1])), (tuple, int, int))

    def test_numbers_of_places(self):
        for many in range(1, 13):
            self.assertEqual(read_web(f"{many}:"), (many, ()))
        for head in ("0", "13", "14", "99", "120", "-1", "+4", "04", "00", "1_2", "1.0", "4e0", "0x4", "", " 4", "4 "):
            self.check_bad(head + ":")

    def test_texts_that_are_not_whole(self):
        for value in ("", ":", "4", "4 ", "4: ", "4:  ", "4:0-1", "4 : 0-1", " 4:", "4:\n", "4: 0-1\n", "\n4:", "4::",
                      "4: 0", "4: 0-", "4: -", "4: -1", "4: 0--1", "4: 0-1-2", "4: 0-1 :", "4: : 0-1", "4:4:", "::"):
            self.check_bad(value)

    def test_signs_between_the_ties(self):
        for value in ("4: 0-1  1-2", "4:  0-1", "4: 0-1,1-2", "4: 0-1, 1-2", "4: 0-1\n1-2", "4: 0 -1", "4: 0- 1",
                      "4: 0 1", "4: 0:1", "4: (0, 1)", "4:0-1 1-2", "4: 0-11-2", "4:\n0-1", "4,0-1", "4; 0-1"):
            self.check_bad(value)

    def test_figures_that_are_no_decimals(self):
        for value in ("4: 00-1", "4: 0-01", "4: +0-1", "4: 0-+1", "4: -0-1", "4: 0-1.0", "4: 0_0-1", "4: 0-1_0",
                      "12: 0-0_1", "4: a-b", "4: 0-x", "4: 0x0-1", "12: 1-0x2", "4: 0-1e0", "4: 0-I", "4: True-2"):
            self.check_bad(value)

    def test_ties_that_no_web_has(self):
        for value in ("4: 1-0", "4: 0-0", "4: 3-3", "4: 0-4", "4: 3-4", "4: 4-5", "1: 0-0", "1: 0-1", "2: 0-2",
                      "12: 0-12", "12: 11-12", "12: 0-13", "4: 0-10", "12: 0-99", "4: 0-1 0-1", "4: 0-2 0-1",
                      "4: 0-1 1-2 0-2", "4: 2-3 1-2", "12: 0-10 0-2"):
            self.check_bad(value)

    def test_texts_changed_at_one_place(self):
        told = {plain_text(web): web for web in WEBS + all_webs(5)}
        for text in ("1:", "4:", "12:", "4: 0-1 1-2 2-3", "5: 0-4 1-3 2-4", "12: 0-1 1-10 9-11"):
            for at in range(len(text) + 1):
                changed = [text[:at] + text[at + 1:]]
                changed += [text[:at] + sign + text[at:] for sign in SIGNS]
                changed += [text[:at] + sign + text[at + 1:] for sign in SIGNS]
                for value in changed:
                    self.check_either(value, told)

    def check_either(self, value, told):
        """The text of a web is read as it, and each other one raises BadText."""
        if value in told:
            self.assertEqual(read_web(value), told[value])
            return
        try:
            web = read_web(value)
        except BadText:
            return
        self.assertEqual(plain_text(web), value)
        self.assertGreater(web[0], 5)

    def test_long_strings(self):
        for value in ("9" * 20000, "0" * 20000, " " * 20000, "\n" * 20000, ":" * 20000, "-" * 20000, "1" * 19999 + ":",
                      "0" * 19998 + "4:", " " * 19998 + "4:", "4:" + " " * 19998, "4: 0-1" + " " * 19994,
                      "4: 0-" + "1" * 19995, "4: " + "0" * 19995 + "-1", "4: 0-" + "0" * 19994 + "1",
                      "12:" + " 0-1" * 4999, "12: 0-1" + " 1-" + "7" * 5000, "9" * 4301 + ":", "4:" * 10000,
                      "4: " + "-" * 19990, "4:" + " 0-1 1-2" * 2000, "-" + "9" * 5000 + ":", "1" + "_1" * 9000 + ":"):
            self.assertLessEqual(len(value), 20000)
            self.check_bad(value)

    def test_values_that_are_no_text_of_a_web(self):
        for value in any_values():
            self.check_bad(value)
        for value in (4, PATH, ["4:"], ("4:",), {"4:": 1}, [4, ":"], (4, ()), True, ("4", ":")):
            self.check_bad(value)

    def test_what_is_handed_in_is_not_changed(self):
        for value in (["4:", [0, 1]], {"4:": [(0, 1)]}):
            ahead = copy.deepcopy(value)
            self.check_bad(value)
            self.assertEqual(value, ahead)


class Calls(unittest.TestCase):

    def test_arguments_by_name(self):
        self.assertEqual(web_text(web=PATH), "4: 0-1 1-2 2-3")
        self.assertEqual(read_web(value="4: 0-1 1-2 2-3"), PATH)

    def test_each_is_defined_in_its_file(self):
        for name in ("web_text", "read_web"):
            self.assertEqual(getattr(webtexts, name).__module__, "liftedties.webtexts")


if __name__ == "__main__":
    unittest.main()
