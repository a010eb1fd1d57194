"""[J6] and [J7]: logs as text, and the benches behind them."""

import copy
import unittest

from liftedties import logs
from liftedties.benches import Bench
from liftedties.errors import BadLog, TiesError
from liftedties.logs import bench_behind, log_text, read_log
from tests.samples import FAR, LOW, PATH, WING, any_values, full_web, nested, striped_web

STAR = (4, ((0, 1), (0, 2), (0, 3)))
EDITS = (
    ("keep", "p", PATH), ("keep", "star", STAR), ("do", "p", (0, 3, 1, 2)), ("turn", "star", (1, 2)), ("drop", "p"),
    ("batch", (("drop", "star"), ("keep", "zed", PATH), ("turn", "zed", (0, 3)))), ("batch", ()), ("keep", "a", (1, ())),
)
# Edit tuples need not be edits that can be done.
ODD_ONES = (
    ("drop", 0), ("drop", ()), ("drop", -1), ("keep", 999999, -999999), ("turn", (), ()), ("batch", 7), ("batch", "batch"),
    ("do", ((),), ((), ())), ("batch", (((1,), 1), (1, (1,)))), ("drop", ("drop", "drop")), ("drop", "abcdefgh"), ("turn", "p", -7),
    ("keep", ("a", 1), ("a", (1,))), ("drop", 10), ("drop", (1, 0)), ("drop", ((1, 0),)), ("do", "p", (10, 2, 3, 4)),
)
SIGNS = "(),-0179az \n+A_."


def plain_text(value):
    """The text of a value that has one, by [J6]."""
    if isinstance(value, tuple):
        return "(" + ",".join(plain_text(item) for item in value) + ")"
    return value if isinstance(value, str) else str(value)


def bracketed(many):
    """The value of an edit tuple in whose text so many brackets are open at once, as an argument."""
    return nested(many - 1, lambda value: (value,))


def nested_empty(many):
    """A tuple in a tuple and so on, of so many, the innermost one with nothing in it."""
    return nested(many, lambda value: () if value == 7 else (value,))


class Logs(unittest.TestCase):

    def check_bad(self, value, place, call=read_log):
        with self.assertRaises(TiesError, msg=repr(value)[:100]) as caught:
            call(value)
        self.assertIs(type(caught.exception), BadLog, repr(value)[:100])
        self.assertEqual(caught.exception.place, place, repr(value)[:100])

    def check_round(self, edits):
        """The text of these edit tuples is that of the document, and is read as them."""
        text = log_text(edits)
        self.assertEqual(text, "".join(plain_text(edit) + "\n" for edit in edits))
        self.assertEqual(read_log(text), edits)

    def check_line(self, line):
        """A line that is no text of an edit tuple, alone, behind others and ahead of others."""
        self.check_bad(line + "\n", 0)
        self.check_bad("(drop,p)\n" + line + "\n", 1)
        self.check_bad("(drop,p)\n(batch,())\n" + line + "\n(drop,p)\n" + line + "\n", 2)


class Texts(Logs):

    def test_the_examples_of_the_document(self):
        b = Bench()
        b.keep("p", PATH)
        b.keep("star", STAR)
        b.do("p", (0, 3, 1, 2))
        b.batch((("drop", "p"), ("keep", "zed", PATH)))
        self.assertEqual(log_text(b.log[2:]), "(do,p,(0,3,1,2))\n(batch,((drop,p),(keep,zed,(4,((0,1),(1,2),(2,3))))))\n")
        self.assertEqual(read_log("(drop,p)\n(drop,"), (("drop", "p"),))
        self.assertEqual(read_log("(turn,p,-7)\n(batch,())\n"), (("turn", "p", -7), ("batch", ())))
        self.assertEqual((read_log(log_text(b.log)) == b.log, bench_behind(b.log) == b, bench_behind(()) == Bench()), (True,) * 3)
        self.check_bad("(drop,p)\n(drop,07)\n", 1)
        self.check_bad((("keep", "p", (1, ())), ("drop", "q")), 1, bench_behind)

    def test_texts_are_read_as_what_they_are_of(self):
        self.check_round(())
        self.check_round(EDITS)
        self.check_round(ODD_ONES)
        self.check_round(EDITS * 50)
        for edit in EDITS + ODD_ONES:
            self.check_round((edit,))
        self.check_round((("keep", "full", full_web(12)), ("keep", "striped", striped_web(12, 3))))
        self.check_round((("batch", (("keep", "full", full_web(12)),) * 12),))

    def test_unlike_rows_have_unlike_texts(self):
        rows = [(edit,) for edit in EDITS + ODD_ONES] + [(one, other) for one in EDITS[:4] for other in ODD_ONES]
        rows += [(), EDITS, ODD_ONES, EDITS[::-1]]
        values = ["a", "ab", 1, 11, -1, (), ("a",), ("a", "b"), ("ab",), (1, 1), (11,), (1, -1), ((),), ((), ()), (((),),), ("a", (1,))]
        rows += [(("drop", value),) for value in values] + [(("turn", one, other),) for one in values for other in values]
        rows = list(dict.fromkeys(rows))
        self.assertEqual(len({log_text(row) for row in rows}), len(rows))
        for row in rows:
            self.check_round(row)

    def test_numbers(self):
        for number in (*range(-120, 121), 999, 1000, 99999, 100000, 999998, 999999, -999, -1000, -99999, -100000, -999998, -999999):
            self.assertEqual(read_log(f"(drop,{number})\n"), (("drop", number),))
            self.check_round((("turn", number, (number, (number,))),))
        for word in ("1000000", "-1000000", "9999999", "12345678", "00", "01", "007", "-0", "-00", "-01", "0000001", "0999999", "+1",
                     "--1", "-", "1-", "1-1", "1_0", "1.0", "1e3", "0x1", " 1", "1 ", "- 1", "", "-999999999", "\u0661", "\u00b2", "\uff11"):
            self.check_line(f"(drop,{word})")
            self.check_line(f"(drop,({word},1))")
            if word:
                self.check_line(f"(drop,({word}))")

    def test_words(self):
        for word in ("a", "z", "ab", "abcdefgh", "zzzzzzzz", "keep", "drop", "true", "none"):
            self.assertEqual(read_log(f"(drop,{word})\n"), (("drop", word),))
            self.check_round((("turn", word, ((word,), word)),))
        for word in ("abcdefghi", "aaaaaaaaaa", "A", "aB", "a1", "1a", "a-b", "-a", "a_b", "a b", " a", "a ", "\u00e9", "a.", "True", "None", "'a'",
                     '"a"', "a\t", "\r", "a\r", "`", "{", "@", "[", "a" * 5000):
            self.check_line(f"(drop,{word})")
            self.check_line(f"(keep,{word},(1,()))")
            self.check_line(f"({word},p)")

    def test_twenty_brackets_and_one_more(self):
        for many in range(2, 21):
            self.check_round((("drop", bracketed(many)), ("batch", bracketed(many))))
            self.check_round((("keep", (7, bracketed(many - 1)), nested_empty(many - 1)),))
            self.assertEqual(read_log("(drop," + "(" * (many - 1) + ")" * many + "\n"), (("drop", nested_empty(many - 1)),))
        for many in (21, 22, 30, 100, 5000):
            self.check_line("(drop," + "(" * (many - 1) + ")" * many)
            self.check_line("(drop," + "(" * (many - 1) + "7" + ")" * many)
        # What was closed does not count: many brackets, but few of them open at once.
        self.check_round((("drop", ((),) * 3000), ("keep", bracketed(20), bracketed(20))))
        self.check_line("(keep," + plain_text(bracketed(20)) + "," + plain_text(bracketed(21)) + ")")

    def test_what_stands_behind_the_last_line_feed_is_no_line(self):
        for rest in ("", "(", "(drop", "(drop,p)", "nonsense", " ", "(" * 5000, "7"):
            self.assertEqual(read_log(rest), ())
            self.assertEqual(read_log("(drop,p)\n" + rest), (("drop", "p"),))
            self.assertEqual(read_log(log_text(EDITS) + rest), EDITS)
            self.check_bad("(drop,p)\nx\n" + rest, 1)


class BadTexts(Logs):

    def test_lines_that_are_no_text_of_an_edit_tuple(self):
        for line in ("", " ", "drop", "p", "7", "()", "(drop)", "(drop,p,p)", "(keep,p)", "(keep,p,(1,()),1)", "(do,p)", "(do,p,1,2)",
                     "(turn,p)", "(turn)", "(batch)", "(batch,(),())", "(undo)", "(redo,p)", "(copy,p)", "(at,1)", "((drop),p)",
                     "((drop,p))", "(7,p)", "((),p)", "(Drop,p)", "(dropp,p)", "(dro,p)", "drop,p", "(drop,p", "drop,p)", "(drop,p))",
                     "((drop,p)", "(drop,p)(drop,p)", "(drop,p),", ",(drop,p)", "(drop,p)7", "(drop,p)a", "(,drop,p)", "(drop,,p)",
                     "(drop,p,)", "(drop,)", "(,)", "(drop, p)", "( drop,p)", "(drop ,p)", "(drop,p )", " (drop,p)", "(drop,p) ",
                     "(drop,())x", "(drop,()x)", "(drop,x())", "(drop,(,))", "(drop,(1,))", "(drop,(,1))", "(drop,()())", "(drop,1())",
                     "(drop;p)", "[drop,p]", "(drop,p)\r", "\\n", "('drop','p')", "(drop,p]", "(drop.p)", ")", "(", ",", ")(", "(()"):
            self.check_line(line)

    def test_values_that_are_no_strings(self):
        for value in any_values():
            if type(value) is not str:
                self.check_bad(value, 0)
        for value in (EDITS, EDITS[0], list("(drop,p)\n"), b"(drop,p)\n", ("(drop,p)\n",), ["(drop,p)\n"], {"(drop,p)\n": 1}, 7, None, True):
            self.check_bad(value, 0)

    def test_strings_of_all_sorts(self):
        for value in any_values():
            if type(value) is str:
                if "\n" in value:
                    self.check_bad(value, 0)
                else:
                    self.assertEqual(read_log(value), ())

    def test_long_texts(self):
        for line in ("x" * 19000, "7" * 19000, "(" * 19000, ")" * 19000, "," * 19000, "-" * 19000, "(drop," + "9" * 19000 + ")", " " * 19000,
                     "(drop," * 3000, "(drop," + "0" * 19000 + ")", "(drop," + "a" * 19000 + ")", "()" * 9000, "(drop,p)" * 2000,
                     "(drop," + "-" * 5000 + "1)", "(drop,(" + "1," * 9000 + "))", "(,)" * 6000):
            self.check_line(line)
        self.assertEqual(read_log("(drop,p)\n" * 2000), (("drop", "p"),) * 2000)
        self.assertEqual(read_log("(drop,(" + "1," * 9000 + "1))\n"), (("drop", (1,) * 9001),))
        self.check_bad("(drop,p)\n" * 1999 + "\n" * 17, 1999)
        self.check_bad("\n" * 20000, 0)

    def test_texts_changed_at_one_place(self):
        text = log_text((EDITS[2], EDITS[0], ODD_ONES[11], EDITS[5]))
        for at in range(len(text) + 1):
            changed = [text[:at] + text[at + 1:]]
            changed += [text[:at] + sign + text[at:] for sign in SIGNS]
            changed += [text[:at] + sign + text[at + 1:] for sign in SIGNS]
            for value in changed:
                self.check_either(value)

    def check_either(self, value):
        """Lines that are read are the texts of what they are read as; the first other one is told."""
        lines = value.split("\n")[:-1]
        try:
            edits = read_log(value)
        except BadLog as error:
            self.assertTrue(0 <= error.place < len(lines))
            ahead = "".join(line + "\n" for line in lines[:error.place])
            self.assertEqual(log_text(read_log(ahead)), ahead)
            self.check_bad(lines[error.place] + "\n", 0)
            return
        self.assertEqual([plain_text(edit) for edit in edits], lines)

    def test_what_is_handed_in_is_not_changed(self):
        for value in (["(drop,p)\n", [1]], {"x": ["(drop,p)\n"]}):
            ahead = copy.deepcopy(value)
            self.check_bad(value, 0)
            self.assertEqual(value, ahead)


class Behind(Logs):

    def made(self):
        """A bench with many edits of all sorts, some of them taken back on the way."""
        b = Bench()
        for edit in EDITS:
            getattr(b, edit[0])(*edit[1:])
            b.undo()
            b.redo()
        b.keep("w", WING)
        b.undo()
        b.keep("low", LOW)
        b.do("low", (2, 3, 0, 1))
        return b

    def test_the_bench_behind_a_log(self):
        b = self.made()
        for twin in (bench_behind(b.log), bench_behind(read_log(log_text(b.log)))):
            self.assertIs(type(twin), Bench)
            self.assertEqual((twin, twin.version, twin.log, twin.made), (b, b.version, b.log, 0))
            self.assertEqual([twin.at(version) for version in range(11)], [b.at(version) for version in range(11)])
            back = b.copy()
            while back.version:
                self.assertEqual(twin.undo(), back.undo())
                self.assertEqual((twin, twin.log, twin.names), (back, back.log, back.names))

    def test_no_edits(self):
        self.assertEqual((bench_behind(()), bench_behind(()).version, bench_behind(()).log), (Bench(), 0, ()))
        self.assertEqual((log_text(()), read_log("")), ("", ()))

    def test_forty_edits_and_one_more(self):
        edits = (("keep", "p", PATH),) + (("turn", "p", (0, 1)),) * 39
        self.assertEqual(bench_behind(edits).version, 40)
        self.check_bad(edits + (("turn", "p", (0, 1)),), 40, bench_behind)
        self.check_bad((("batch", ()),) * 50, 40, bench_behind)

    def test_the_first_that_raises_an_error(self):
        right = ("keep", "p", PATH)
        for wrong in (("drop", "q"), ("keep", "P", PATH), ("keep", "p", ()), ("do", "p", (0, 1, 2, 3)), ("do", "q", (0, 3, 1, 2)), ("turn", "p", (1, 0)),
                      ("turn", 7, (0, 1)), ("batch", (("drop", "q"),)), ("batch", 7), ("batch", (("batch", ()),)), ("drop", ()), ("keep", 7, 7)):
            for ahead in (1, 2, 39):
                self.check_bad((right,) * ahead + (wrong, right, wrong), ahead, bench_behind)
        for value in any_values():
            edits = [("drop", value), ("do", "p", value), ("keep", "p", value), ("turn", value, (0, 1))]
            for edit in edits if value == (0, 1) else edits + [("turn", "p", value)]:
                self.check_bad((right, edit), 1, bench_behind)
            if value not in ((), (("drop", "p"),)):
                self.check_bad((right, ("batch", value)), 1, bench_behind)
        self.check_bad(ODD_ONES, 0, bench_behind)

    def test_seven_names(self):
        edits = tuple(("keep", name, PATH) for name in "abcdefg")
        self.assertEqual(bench_behind(edits[:6]).names, tuple("abcdef"))
        self.check_bad(edits, 6, bench_behind)

    def test_each_call_makes_a_bench_of_its_own(self):
        edits = self.made().log
        one, other = bench_behind(edits), bench_behind(edits)
        one.undo()
        self.assertEqual((other.version, other.log), (len(edits), edits))
        self.assertNotEqual(one.log, other.log)

    def test_a_log_cut_anywhere(self):
        b = self.made()
        text = log_text(b.log)
        for at in range(len(text) + 1):
            edits = read_log(text[:at])
            self.assertEqual(edits, b.log[:text[:at].count("\n")])
            if at % 7 == 0 or text[at - 1:at + 1].count("\n"):
                twin = bench_behind(edits)
                self.assertEqual((twin.version, twin.at(twin.version)), (len(edits), b.at(len(edits))))

    def test_what_is_handed_in_is_not_changed(self):
        value = ({"x": [1]}, [2])
        ahead = copy.deepcopy(value)
        self.check_bad((("keep", "p", PATH), ("do", "p", value)), 1, bench_behind)
        self.check_bad((("keep", "p", PATH), ("batch", value)), 1, bench_behind)
        self.assertEqual(value, ahead)

    def test_far_numbers_are_no_places(self):
        self.check_bad((("keep", "p", PATH), ("turn", "p", (0, FAR))), 1, bench_behind)


class Calls(unittest.TestCase):

    def test_arguments_by_name(self):
        self.assertEqual(log_text(edits=(("drop", "p"),)), "(drop,p)\n")
        self.assertEqual(read_log(value="(drop,p)\n"), (("drop", "p"),))
        self.assertEqual(bench_behind(edits=EDITS), bench_behind(EDITS))

    def test_each_is_defined_in_its_file(self):
        for name in ("log_text", "read_log", "bench_behind"):
            self.assertEqual(getattr(logs, name).__module__, "liftedties.logs")


if __name__ == "__main__":
    unittest.main()
