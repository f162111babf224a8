"""Programs: what they are made of, and what is asked about them."""

import unittest

from loanpairs.base.functions import Function
from loanpairs.base.programs import MAX_FUNCTIONS, Program
from loanpairs.errors import InvalidFunction, InvalidOperation, InvalidProgram, InvalidWord, ParseError, UnknownName
from tests.helper import CACHE, KEEP, LAST, LATE, check_errors, check_raises, last, odd_values, program, wrong_for


def simple(called, *calls):
    """A function that calls others."""
    lines = [f"call {other}()" for other in calls]
    return Function.from_lines(f"def {called}()", *lines, "return")


class Parts(unittest.TestCase):
    def test_constant(self):
        self.assertEqual(MAX_FUNCTIONS, 12)

    def test_examples(self):
        self.assertEqual(
            [str(LAST), LAST.names, LAST["last"].calls, LAST.needed("last"), LAST.text[0]],
            ["program of 1 functions, 3 lines", ("last",), (), ("last",), "fields next val"],
        )
        with self.assertRaises(InvalidProgram):
            Program.from_lines("fields next", "def f(p look)", "touch p.val look", "return")

    def test_wrong_fields(self):
        good = (("a", "b"), (simple("f"),))
        fields = wrong_for(InvalidWord, (), ["a"], ("a", "a"), ("a", "b", "c", "d", "e"), ("",), ("call",), "a")
        functions = wrong_for(InvalidProgram, (), [simple("f")], simple("f"), (simple("f"), simple("f")),
                              (simple("f"), 1), (simple("f"), LAST), (LAST,), but=())
        self.assertEqual(Program(*good).fields, ("a", "b"))
        wrong = [(value, error) for value, error in functions if not is_lone_function(value)]
        check_errors(self, Program, good, [fields, wrong])

    def test_each_part_is_a_field_or_the_whole(self):
        steps = ("copy x = a.{}", "take x = a.{}", "put a.{} = x", "lend r = a.{}", "touch a.{} look",
                 "touch a.{} full", "call g(lend a.{})", "call g(lend a.{}, lend a)", "call g(lend a, lend a.{})")
        for step in steps:
            many = step.count("lend") if "call" in step else 0
            callee = Function.from_lines(("def g()", "def g(p look)", "def g(p look, q full)")[many], "return")
            for part, is_good in (("f", True), ("g", True), ("h", False), ("a", False), ("x", False)):
                head = "def t(a own): x own, r look"
                function = Function.from_lines(head, step.format(part), "return")
                if is_good:
                    self.assertEqual(len(Program(("f", "g"), (function, callee))), 2)
                else:
                    check_raises(self, InvalidProgram, Program, ("f", "g"), (function, callee))
            whole = Function.from_lines("def t(a own): x own, r look", step.replace(".{}", ""), "return")
            self.assertEqual(len(Program(("f", "g"), (callee, whole))), 2)

    def test_order_of_functions(self):
        told = (simple("c", "a"), simple("a"), simple("b", "b"))
        made = Program(("f",), told)
        self.assertEqual([function.called for function in made.functions], ["a", "b", "c"])
        self.assertEqual(made, Program(("f",), tuple(reversed(told))))
        self.assertEqual([function.called for function in told], ["c", "a", "b"])
        self.assertEqual(made.names, ("a", "b", "c"))
        self.assertEqual(made.text, ("fields f", "def a()", "return", "def b()", "call b()", "return",
                                     "def c()", "call a()", "return"))

    def test_one_to_twelve_functions(self):
        told = [simple("abcdefghijklm"[at]) for at in range(13)]
        for many in range(1, 13):
            self.assertEqual(len(Program(("f",), tuple(told[:many]))), many)
        check_raises(self, InvalidProgram, Program, ("f",), tuple(told))
        check_raises(self, InvalidProgram, Program, ("f",), ())

    def test_properties(self):
        both = LAST | CACHE
        self.assertEqual(both.fields, ("next", "val"))
        self.assertEqual(both.functions, (CACHE["get"], LAST["last"]))
        self.assertEqual(both.functions, both.functions)
        self.assertEqual(both.text, both.text)
        self.assertEqual(both.text, CACHE.text + LAST.text[1:])
        self.assertEqual(str(both), "program of 2 functions, 8 lines")
        self.assertEqual(len(both), 2)
        self.assertEqual(Program.from_lines(*both.text), both)

    def test_items_and_members(self):
        self.assertEqual(LAST["last"], last())
        self.assertIn("last", LAST)
        self.assertIn(last(), LAST)
        self.assertNotIn("get", LAST)
        self.assertNotIn(CACHE["get"], LAST)
        self.assertNotIn(last().with_line(0, ("skip",), 1), LAST)
        for value in odd_values():
            if not (isinstance(value, Function) and value == last()):
                self.assertIs(value in LAST, False)
            check_raises(self, UnknownName, LAST.__getitem__, value)
        for value in ("p", "get", "", last()):
            self.assertIs(check_raises(self, UnknownName, LAST.__getitem__, value).wanted, value)

    def test_no_iteration(self):
        for value in (LAST, LAST | CACHE):
            with self.assertRaises(TypeError):
                iter(value)
            with self.assertRaises(TypeError):
                list(value)

    def test_equality(self):
        self.assertEqual(LAST, Program.from_lines(*LAST.text))
        self.assertNotEqual(LAST, Program(("val", "next"), LAST.functions))
        self.assertNotEqual(LAST, Program(("next",), LAST.functions))
        self.assertNotEqual(LAST, LAST | CACHE)
        self.assertNotEqual(LAST, LAST.with_function(last().with_line(0, ("skip",), 1)))
        for value in odd_values():
            self.assertIs(LAST == value, isinstance(value, Program))
            self.assertIs(LAST != value, not isinstance(value, Program))
            self.assertIs(LATE == value, False)


def is_lone_function(value):
    return isinstance(value, tuple) and len(value) == 1 and isinstance(value[0], Function)


class Calls(unittest.TestCase):
    """Whether calls fit the called functions."""

    def judge(self, head, step, called, is_good):
        lines = ("fields f", f"def t{head}", step, "return", called, *self.body(called))
        if is_good:
            self.assertEqual(len(Program.from_lines(*lines)), 2)
        else:
            check_raises(self, InvalidProgram, Program.from_lines, *lines)

    def body(self, called):
        """Lines of a function that has a head like `def g(p full) full`."""
        result = called.partition(")")[2].strip()
        if result == "own":
            return ("skip -> 0",)
        return ("skip -> 0",) if result else ("return",)

    def test_lacking(self):
        self.judge("()", "call g()", "def h()", False)
        self.judge("()", "call g()", "def g()", True)
        check_raises(self, InvalidProgram, Program.from_lines, "fields f", "def t()", "call g()", "return")
        self.assertEqual(len(Program.from_lines("fields f", "def t()", "call t()", "return")), 1)

    def test_number_of_arguments(self):
        heads = ("def g()", "def g(p look)", "def g(p look, q look)", "def g(p look, q look, r look)")
        for at, head in enumerate(heads):
            for many in range(4):
                given = ", ".join(["lend a"] * many)
                self.judge("(a own)", f"call g({given})", head, at == many)

    def test_forms_and_kinds_of_arguments(self):
        kinds = ("full", "look", "own")
        lend = {"full": ("full", "own"), "look": kinds, "own": ()}
        for wanted in kinds:
            for kind in kinds:
                self.judge(f"(a {kind})", "call g(lend a)", f"def g(p {wanted})", kind in lend[wanted])
                self.judge(f"(a {kind})", "call g(lend a.f)", f"def g(p {wanted})", kind in lend[wanted])
                self.judge(f"(a {kind})", "call g(move a)", f"def g(p {wanted})", kind == wanted)
                step = "call g(lend a, move a)"
                self.judge(f"(a {kind})", step, f"def g(o look, p {wanted})", kind == wanted)

    def test_results(self):
        kinds = ("full", "look", "own")
        for wanted in (*kinds, ""):
            head = f"def g() {wanted}" if wanted else "def g()"
            for kind in kinds:
                self.judge(f"(a {kind})", "call a = g()", head, kind == wanted)
            self.judge("(a own)", "call g()", head, wanted == "")

    def test_all_variables_can_be_the_same(self):
        made = program("def t(a full)", "call a = g(lend a.f, move a, lend a)", "return",
                       "def g(a look, b full, c full) full", "return b")
        self.assertEqual(made["t"].calls, ("g",))

    def test_calls_are_judged_by_the_function_itself_too(self):
        check_raises(self, InvalidProgram, Program.from_lines, "fields f", "def t(a own)", "call t()", "return")


class Texts(unittest.TestCase):
    lines = ("fields f g", "def t(a own)", "touch a.f look -> 0 1", "return", "def s()", "return")

    def test_from_lines(self):
        made = Program.from_lines(*self.lines)
        self.assertEqual(made.text, ("fields f g", "def s()", "return", *self.lines[1:4]))
        self.assertEqual(made["t"][0], (("touch", "a", "f", "look"), (0, 1)))
        self.assertEqual(Program.from_lines("fields f", "def s()", "return").fields, ("f",))
        self.assertEqual(Program.from_lines("fields d c b a", "def s()", "return").fields, ("d", "c", "b", "a"))

    def test_no_lines(self):
        self.assertEqual(check_raises(self, ParseError, Program.from_lines).line, 0)

    def test_first_line(self):
        for text in ("fields", "fields ", "fields  f", " fields f", "fields f ", "fields f  g", "fields f,g", "field f",
                     "fields f f", "fields a b c d e", "fields call", "fields F", "f g", "", "def s()", "return",
                     "fields f\n", "fields\nf", "fields abcdefghi", "fieldsf"):
            given = (text, *self.lines[1:])
            self.assertEqual(check_raises(self, ParseError, Program.from_lines, *given).line, 0, text)

    def test_index_of_the_first_line_that_is_none(self):
        for at in range(len(self.lines)):
            for other in range(at, len(self.lines)):
                given = list(self.lines)
                given[at] = given[other] = "what"
                self.assertEqual(check_raises(self, ParseError, Program.from_lines, *given).line, at)

    def test_values_that_are_no_text(self):
        for value in odd_values():
            for at in range(3):
                given = [*self.lines[:at], value, *self.lines[at:]]
                self.assertEqual(check_raises(self, ParseError, Program.from_lines, *given).line, at)

    def test_line_ahead_of_the_first_head(self):
        for text in ("return", "skip", "touch a look -> 0 1"):
            given = ("fields f", text, "def t(a own)", "return")
            self.assertEqual(check_raises(self, ParseError, Program.from_lines, *given).line, 1)

    def test_a_second_line_of_fields_is_none(self):
        given = (*self.lines, "fields f g")
        self.assertEqual(check_raises(self, ParseError, Program.from_lines, *given).line, 6)

    def test_indices_are_those_of_the_function(self):
        lines = ("fields f", "def a()", "skip -> 0 1", "return", "def b()", "skip -> 0 1", "skip", "return")
        self.assertEqual(Program.from_lines(*lines).text, lines)
        told = (*lines[:5], "skip -> 1", "return")
        self.assertEqual(check_raises(self, ParseError, Program.from_lines, *told).line, 5)

    def test_no_program(self):
        good = ("def s()", "return")
        for bad in (
            (), ("def t()",), ("def t()", *good), (*good, "def t()"), (*good, "def t(a own, a own)", "return"),
            (*good, *good), (*good, "def t()", "skip -> 5", "return"), (*good, "def t()", "skip"),
            (*good, "def t(a look)", "touch a full", "return"), (*good, "def t()", "touch a full", "return"),
            (*good, "def t()", "return a"), (*good, "def t(a own)", "touch a.g look", "return"),
            (*good, "def t()", "call u()", "return"), (*good, "def t(a own)", *["skip"] * 40, "return"),
            (*good, "def t(a own, b own, c own, d own)", "return"),
        ):
            check_raises(self, InvalidProgram, Program.from_lines, "fields f", *bad)

    def test_texts_are_judged_ahead_of_all_else(self):
        bad = ("fields f", "def t(a own, a own)", "skip -> 9", "call u(move z)", "def t()", "what", "what")
        self.assertEqual(check_raises(self, ParseError, Program.from_lines, *bad).line, 5)
        check_raises(self, InvalidProgram, Program.from_lines, *bad[:5])

    def test_thirteen_functions(self):
        told = [line for letter in "abcdefghijklm" for line in (f"def {letter}()", "return")]
        self.assertEqual(len(Program.from_lines("fields f", *told[:24])), 12)
        check_raises(self, InvalidProgram, Program.from_lines, "fields f", *told)


class Links(unittest.TestCase):
    made = Program(("f",), (
        simple("main", "left", "right"), simple("left", "leaf"), simple("right", "leaf", "right"),
        simple("leaf"), simple("ring", "rang"), simple("rang", "ring", "main"),
    ))

    def test_callers(self):
        self.assertEqual(self.made.callers("leaf"), ("left", "right"))
        self.assertEqual(self.made.callers("right"), ("main", "right"))
        self.assertEqual(self.made.callers("main"), ("rang",))
        self.assertEqual(LAST.callers("last"), ())

    def test_needed(self):
        self.assertEqual(self.made.needed("leaf"), ("leaf",))
        self.assertEqual(self.made.needed("left"), ("leaf", "left"))
        self.assertEqual(self.made.needed("main"), ("leaf", "left", "main", "right"))
        self.assertEqual(self.made.needed("ring"), ("leaf", "left", "main", "rang", "right", "ring"))

    def test_wrong_names(self):
        names = wrong_for(UnknownName, "f", "", LAST["last"])
        for action in (self.made.callers, self.made.needed, self.made.without):
            for value, error in names:
                self.assertIs(check_raises(self, error, action, value).wanted, value)


class Changes(unittest.TestCase):
    def test_with_function(self):
        more = LAST.with_function(CACHE["get"])
        self.assertEqual((more.names, LAST.names), (("get", "last"), ("last",)))
        other = more.with_function(last().with_line(0, ("skip",), 2))
        self.assertEqual(other["last"][0], (("skip",), (2,)))
        self.assertEqual((more["last"], len(other)), (last(), 2))
        self.assertEqual(more.with_function(last()), more)

    def test_with_function_errors(self):
        for value in odd_values():
            if not isinstance(value, Function):
                check_raises(self, InvalidFunction, LAST.with_function, value)
        for called in (LATE["late"], CACHE["get"]):
            check_raises(self, InvalidOperation, program("def s()", "return").with_function, called)
        check_raises(self, InvalidOperation, LAST.with_function, simple("s", "t"))
        caller = LAST.with_function(Function.from_lines("def c(p full)", "call p = last(move p)", "return"))
        check_raises(self, InvalidOperation, caller.with_function, simple("last"))
        full = Program(("f",), tuple([simple(letter) for letter in "abcdefghijkl"]))
        check_raises(self, InvalidOperation, full.with_function, simple("m"))
        self.assertEqual(len(full.with_function(simple("l", "a"))), 12)

    def test_without(self):
        both = LAST | CACHE
        self.assertEqual([both.without("get"), both.without("last")], [LAST, CACHE])
        self.assertEqual(len(both), 2)
        check_raises(self, InvalidOperation, LAST.without, "last")
        calling = Program(("f",), (simple("a", "b"), simple("b"), simple("c", "c")))
        check_raises(self, InvalidOperation, calling.without, "b")
        self.assertEqual(calling.without("a").names, ("b", "c"))
        self.assertEqual(calling.without("c").names, ("a", "b"))

    def test_or(self):
        self.assertEqual((LAST | CACHE).names, ("get", "last"))
        self.assertEqual(LAST | CACHE, CACHE | LAST)
        self.assertEqual(LAST | LAST, LAST)
        self.assertEqual(((LAST | CACHE) | (CACHE | KEEP)).names, ("get", "keep", "last"))
        changed = LAST.with_function(last().with_line(0, ("skip",), 2))
        check_raises(self, InvalidOperation, LAST.__or__, changed)
        few = Program(("f",), tuple([simple(letter) for letter in "abcdefgh"]))
        more = Program(("f",), tuple([simple(letter) for letter in "efghijklm"]))
        check_raises(self, InvalidOperation, few.__or__, more)
        self.assertEqual(len(few | more.without("m")), 12)

    def test_and(self):
        self.assertEqual((LAST | CACHE) & (CACHE | KEEP), CACHE)
        check_raises(self, InvalidOperation, LAST.__and__, CACHE)
        changed = LAST.with_function(last().with_line(0, ("skip",), 2))
        self.assertEqual((LAST | CACHE) & (changed | CACHE), CACHE)
        calling = Program(("f",), (simple("a", "b"), simple("b"), simple("c")))
        other = Program(("f",), (simple("a", "b"), simple("b", "b"), simple("c")))
        check_raises(self, InvalidOperation, calling.__and__, other)
        self.assertEqual(calling & calling, calling)

    def test_other_operands(self):
        for value in (*odd_values(), last(), Program(("val", "next"), LAST.functions), program("def s()", "return")):
            if value != LAST:
                check_raises(self, InvalidOperation, LAST.__or__, value)
                check_raises(self, InvalidOperation, LAST.__and__, value)
                with self.assertRaises(InvalidOperation):
                    LAST | value
                with self.assertRaises(InvalidOperation):
                    LAST & value

    def test_elder_programs_stay(self):
        both = LAST | CACHE
        text = both.text
        for action in (lambda: both.with_function(LATE["late"]), lambda: both.without("get"), lambda: both | KEEP,
                       lambda: both & LAST):
            action()
            self.assertEqual(both.text, text)


if __name__ == "__main__":
    unittest.main()
