import unittest

from loanpairs.base.functions import Function
from loanpairs.errors import InvalidFunction, ParseError
from tests.helper import LAST_LINES, check_raises, last, odd_values

LONG = "9" * 60
FOUR_HUNDRED = tuple("x" * many + sign for many in range(1, 8) for sign in "abcdefghijklmnopqrstuvwxyz")


class Reading(unittest.TestCase):
    """[2.2]"""

    def test_by_parts_and_by_text(self):
        lines = (
            (("skip",), (1, 2)), (("lend", "p", "p", "next"), (1, 2)), (("return", "p"), ()),
        )
        self.assertEqual(last(), Function("last", (("p", "full"),), "full", (), lines))
        self.assertEqual(last().text, LAST_LINES)

    def test_each_text_is_read_back(self):
        heads = (
            "def f()", "def f() own: a own", "def f(a own)", "def f(a own, b full, c look)", "def f(a own) own",
            "def f(a own, b full) look: c look", "def f(): a own", "def f(): a own, b look, c full", "def f() full",
            "def f(f own, next look): abcdefgh full",
        )
        for head in heads:
            told = Function.from_lines(head, "skip", "skip -> 0 1")
            self.assertEqual(told.text, (head, "skip", "skip -> 0 1"))
            self.assertEqual(str(told), head)
            again = Function(told.called, told.parameters, told.result, told.variables, told.lines)
            self.assertEqual(told, again)

    def test_the_parts_of_a_head(self):
        told = Function.from_lines("def last(p full, q own) full: r full, s look", "return p")
        self.assertEqual((told.called, told.parameters), ("last", (("p", "full"), ("q", "own"))))
        self.assertEqual((told.result, told.variables), ("full", (("r", "full"), ("s", "look"))))

    def test_nexts(self):
        told = Function.from_lines("def f()", "skip", "skip -> 0 1 3", "skip -> 2", "skip -> 0", "return")
        self.assertEqual([nexts for _, nexts in told.lines], [(1,), (0, 1, 3), (2,), (0,), ()])

    def test_forty_lines(self):
        lines = tuple(f"skip -> {index}" for index in range(40))
        told = Function.from_lines("def f()", *lines)
        self.assertEqual(told.text, ("def f()",) + lines)
        jumps = ("skip -> 0 39",) * 40
        self.assertEqual(Function.from_lines("def f()", *jumps).text[1:], jumps)

    def test_nexts_that_are_just_the_next_index(self):
        told = Function("f", (), "", (), ((("skip",), (1,)), (("skip",), (0, 1)), (("skip",), (1,)), (("skip",), (2,))))
        self.assertEqual(told.text, ("def f()", "skip", "skip -> 0 1", "skip -> 1", "skip -> 2"))


class ParseErrors(unittest.TestCase):
    """[2.2]: the first line that is none."""

    def check(self, line, *lines):
        error = check_raises(self, ParseError, Function.from_lines, *lines)
        self.assertEqual(error.line, line, lines)
        self.assertIs(error.line.__class__, int)

    def check_head(self, head):
        self.check(0, head, "skip -> 0")
        self.check(0, head)
        self.check(0, head, "none", None)

    def check_line(self, line):
        self.check(1, "def f(a own): r full", line)
        self.check(1, "def f(a own): r full", line, "return")
        self.check(3, "def f(a own): r full", "skip", "return", line, "none")
        self.check(2, "def f(a own, a own)", "skip -> 7", line)

    def test_without_lines(self):
        self.check(0)

    def test_the_first_one(self):
        self.check(0, "none", "none", "none")
        self.check(1, "def f()", "none", "none")
        self.check(2, "def f()", "skip", "none", "none")
        self.check(2, "def f()", "skip", "none", "return")

    def test_a_head_in_the_midst(self):
        self.check(2, "def f()", "return", "def g()", "return")
        self.check(1, "def f()", "def f()")

    def test_a_line_ahead(self):
        self.check(0, "return", "def f()")
        self.check(0, "fields a", "def f()", "return")

    def test_blanks_and_signs_of_heads(self):
        wrong = (
            "", "def", "def ", "def f", "def f(", "def f)", "deff()", "Def f()", " def f()", "def f() ", "def  f()",
            "def f ()", "def f( )", "def f():", "def f(): ", "def f() :", "def f() : a own", "def f():a own",
            "def f():  a own", "def f(): a own ", "def f(): a  own", "def f(): a own,b own", "def f(): a own,  b own",
            "def f(): a own , b own", "def f(): a own,", "def f(): a own, ", "def f(): , a own", "def f(a own,b own)",
            "def f(a own, )", "def f(, a own)", "def f( a own)", "def f(a own )", "def f(a  own)", "def f(a: own)",
            "def f(a)", "def f(own)", "def f(a own b own)", "def f(a own; b own)", "def f(a own)own", "def f(a own)  own",
            "def f(a own) own : b own", "def f(a own) own own", "def f(a own) -> own", "def f(a own) own:", "f()",
            "def f(a own): b own: c own", "def f(a own)): b own", "def f((a own)", "def f()()", "def f(a own) (b own)",
            "def f()\n", "\ndef f()", "def f(a\nown)", "def f(a own,\nb own)", "def f():\na own", "def f()\nown",
            "def f() own, full", "def f[]", "def f.g()", "def f(a.b own)", "fields a", "def", "def f() return", "def ()",
        )
        for head in wrong:
            self.check_head(head)

    def test_names_and_kinds_of_heads(self):
        for name in ("A", "a1", "own", "def", "skip", "abcdefghi", "", "-", "a_b", "1"):
            for head in ("def {}()", "def f({} own)", "def f(a own, {} look)", "def f(): {} own",
                         "def f(a own) own: b own, {} own"):
                self.check_head(head.replace("{}", name))
        for kind in ("Own", "a", "", "copy", "fields", "owner", "ref", "1"):
            for head in ("def f(a {})", "def f() {}", "def f(): a {}", "def f(a own, b {}) own", "def f(): a own, b {}"):
                self.check_head(head.replace("{}", kind))

    def test_no_texts(self):
        for value in odd_values() + [b"def f()", ("def f()",), ["def f()", "return"], last()]:
            self.check_head(value)
            self.check_line(value)
        self.check(0, LAST_LINES)
        self.check(0, list(LAST_LINES))
        self.check(1, "def f()", ("return", ""))

    def test_lines_that_are_no_steps(self):
        wrong = (
            "", "skip ", " skip", "skip\n", "skip;", "none", "new", "new x y", "touch a", "touch a own", "copy a = r.f.g",
            "call g", "call g(lend a, lend a, lend a, lend a)", "new abcdefghi", "new own", "lend r = a.", "x = a",
            "move a = a", "copy a = a", "take a = a.f", "put a = a", "return ; ", "skip skip",
        )
        for line in wrong:
            self.check_line(line)
            self.check_line(f"{line} -> 0")

    def test_blanks_and_signs_of_nexts(self):
        wrong = (
            "skip ->", "skip -> ", "skip->0", "skip ->0", "skip-> 0", "skip  -> 0", "skip ->  0", "skip -> 0 ",
            "skip -> 0  2", "skip -> 0, 2", "skip -> 0,2", "skip -> (0 2)", "skip -> 0 -> 2", "skip -> a", "skip => 0",
            "skip > 0", "-> 0", " -> 0", "skip 0", "skip -> 0\n", "skip -> 0\n2", "skip\n-> 0", "skip -> 0x1",
            "skip -> 0 None", "skip -> True", "skip -> 1.0", "skip -> 1_0", "skip -> 0;", "skip -> 0 \n", "skip -> \u0662",
        )
        for line in wrong:
            self.check_line(line)

    def test_numbers_of_nexts(self):
        self.check_line("skip -> 0 5 6 7")
        self.check_line("skip -> " + " ".join(str(number) for number in range(3000)))

    def test_nexts_that_do_not_ascend(self):
        for nexts in ("1 0", "0 0", "0 5 4", "0 5 5", "5 0 6", "10 9", "9 9 9", f"{LONG} 0", f"{LONG} {LONG}"):
            self.check_line(f"skip -> {nexts}")

    def test_numbers_with_signs_and_zeros(self):
        for number in ("-1", "+1", "-0", "+0", "00", "01", "007", "0" * 60, "- 1", "1e3", "--1"):
            self.check_line(f"skip -> {number}")
            self.check_line(f"skip -> 0 {number}")

    def test_numbers_of_more_than_sixty_digits(self):
        for number in ("1" + "0" * 60, "9" * 61, "1" * 5000, "1" * 11000):
            self.check_line(f"skip -> {number}")
            self.check_line(f"skip -> 0 {number}")

    def test_nexts_behind_a_return(self):
        for line in ("return -> 0", "return -> 1", "return -> 7", "return a -> 0", "return -> ", "return -> 0 1"):
            self.check_line(line)

    def test_each_line_has_just_one_text(self):
        self.check(1, "def f()", "skip -> 1", "return")
        self.check(2, "def f()", "skip", "skip -> 2", "return")
        self.check(3, "def f()", "skip", "skip -> 1", "skip -> 3")
        self.check(1, "def f(a own, a own)", "skip -> 1")


class Judged(unittest.TestCase):
    """[2.2]: what is judged when all lines are read."""

    def check(self, *lines):
        check_raises(self, InvalidFunction, Function.from_lines, *lines)
        error = check_raises(self, ParseError, Function.from_lines, *lines, "none")
        self.assertEqual(error.line, len(lines))

    def test_numbers_of_names(self):
        self.check("def f(a own, b own, c own, d own)", "skip -> 0")
        self.check("def f(): " + ", ".join(f"{name} own" for name in "abcdefghi"), "skip -> 0")
        self.check("def f(a own, b own): " + ", ".join(f"{name} own" for name in "cdefghi"), "skip -> 0")
        self.check("def f(" + ", ".join(f"{name} own" for name in FOUR_HUNDRED) + ")", "skip -> 0")
        self.check("def f(): " + ", ".join(["a look"] * 1500), "skip -> 0")

    def test_names_twice(self):
        for head in ("def f(a own, a own)", "def f(a own): a own", "def f(): a own, b own, a look"):
            self.check(head, "skip -> 0")

    def test_kinds_in_steps(self):
        steps = (
            "new r", "copy r = a", "take a = l", "take r = a", "put l = a", "put a = r", "lend a = r", "lend r = l",
            "move a = r", "move l = r", "touch l full", "touch l.f full",
        )
        for step in steps:
            self.check("def f(a own): r full, l look", f"{step} -> 0")

    def test_variables_that_are_none(self):
        for step in ("new x", "lend r = x", "drop x", "call x = g()", "call g(move x)", "touch x look"):
            self.check("def f(a own): r full", f"{step} -> 0")

    def test_results(self):
        self.check("def f(a own)", "return a")
        self.check("def f(a own) own", "return")
        self.check("def f(a own) look", "return a")
        self.check("def f(a own) own", "return b")

    def test_nexts_beyond_the_function(self):
        self.check("def f()", "skip")
        self.check("def f()", "return", "skip")
        self.check("def f()", "skip -> 2", "return")
        self.check("def f()", "skip -> 0 1 2", "return")
        for number in ("40", "1" * 59, LONG):
            self.check("def f()", f"skip -> {number}")
            self.check("def f()", f"skip -> 0 {number}")

    def test_numbers_of_lines(self):
        self.check("def f()")
        self.check("def f() own: a own")
        self.check("def f()", *("skip -> 0",) * 41)
        self.check("def f()", *("skip -> 0",) * 400)

    def test_parse_errors_come_first(self):
        error = check_raises(self, ParseError, Function.from_lines, "def f(a own, a own)", "new b -> 7", "new")
        self.assertEqual(error.line, 2)
        error = check_raises(self, ParseError, Function.from_lines, "def f()", *("skip -> 0",) * 50, "none")
        self.assertEqual(error.line, 51)
