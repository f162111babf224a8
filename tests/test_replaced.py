"""Other names, and calls that are replaced by the lines of the called function."""

import unittest

from loanpairs.base.functions import Function
from loanpairs.base.programs import Program, inlined, renamed
from loanpairs.errors import InvalidNumber, InvalidOperation, InvalidProgram, UnknownName
from tests.helper import CACHE, KEEP, LAST, check_errors, check_raises, odd_values, program, wrong_for

EACH = program(
    "def main(a own, g full): x own, r look, f full",
    "copy x = a.f -> 1 2", "take x = a.g", "put a.f = x", "lend r = a.g", "touch a.f full -> 3 5",
    "call f = f(lend a.f, move g, lend r)", "drop x", "move f = g", "new x", "return",
    "def f(f full, g full, h look) full", "lend f = f.g", "call f = f(lend g.f, move f, lend h.g)", "return g",
)


def rename(told, fields, functions):
    return renamed(told, fields=fields, functions=functions)


class Renamed(unittest.TestCase):
    def test_all_that_has_a_name(self):
        made = rename(EACH, {"f": "left", "g": "right"}, {"main": "first", "f": "second"})
        self.assertEqual(made.text, (
            "fields left right",
            "def first(a own, g full): x own, r look, f full",
            "copy x = a.left -> 1 2", "take x = a.right", "put a.left = x", "lend r = a.right",
            "touch a.left full -> 3 5", "call f = second(lend a.left, move g, lend r)", "drop x", "move f = g",
            "new x", "return",
            "def second(f full, g full, h look) full", "lend f = f.right",
            "call f = second(lend g.left, move f, lend h.right)", "return g",
        ))

    def test_names_that_change_places_and_back(self):
        fields, functions = {"f": "g", "g": "f"}, {"main": "f", "f": "main"}
        made = rename(EACH, fields, functions)
        self.assertEqual(made.fields, ("g", "f"))
        self.assertEqual(made["f"].text[5], "touch a.g full -> 3 5")
        self.assertEqual(made["f"].text[6], "call f = main(lend a.g, move g, lend r)")
        self.assertEqual(made["f"][0][0], ("copy", "x", "a", "g"))
        self.assertEqual(rename(made, fields, functions), EACH)
        self.assertNotEqual(made, EACH)
        self.assertEqual(rename(EACH, {"g": "g", "f": "f"}, {"f": "f", "main": "main"}), EACH)

    def test_arguments_stay(self):
        fields, functions = {"g": "f", "f": "g"}, {"main": "f", "f": "main"}
        made = rename(EACH, fields, functions)
        self.assertEqual([list(fields.items()), list(functions.items())],
                         [[("g", "f"), ("f", "g")], [("main", "f"), ("f", "main")]])
        fields.clear()
        functions.clear()
        self.assertEqual([made.fields, made.names], [("g", "f"), ("f", "main")])

    def test_new_order_of_functions(self):
        made = rename(LAST | CACHE, {"next": "next", "val": "val"}, {"get": "z", "last": "a"})
        self.assertEqual([made.names, str(made)], [("a", "z"), "program of 2 functions, 8 lines"])
        self.assertEqual(made["z"].lines, CACHE["get"].lines)

    def test_errors(self):
        def action(told, fields, functions):
            return renamed(told, fields=fields, functions=functions)

        good = [EACH, {"f": "a", "g": "b"}, {"main": "a", "f": "b"}]
        programs = wrong_for(InvalidProgram, but=(LAST,))
        programs = [(value, error) for value, error in programs if not isinstance(value, Program)]
        fields = wrong_for(InvalidOperation, {}, {"f": "a"}, {"f": "a", "g": "a"}, {"f": "a", "g": "b", "h": "c"},
                           {"f": "a", "h": "b"}, {"f": "a", "g": ""}, {"f": "a", "g": "call"}, {"f": "a", "g": 1},
                           {"f": "a", "g": []}, {"f": True, "g": True}, (("f", "a"), ("g", "b")), "fg")
        functions = wrong_for(InvalidOperation, {}, {"main": "a"}, {"main": "a", "f": "a"}, {"main": "a", "f": "A"},
                              {"main": "a", "f": "b", "g": "c"}, {"main": "a", "g": "b"}, {"main": "a", 1: "b"})
        check_errors(self, action, good, [programs, fields, functions])


class Inlined(unittest.TestCase):
    def check(self, told, name, index, wanted):
        """The function with a call replaced has these lines, with the new variables called by free letters."""
        text = told.text
        made = inlined(told, name, index)
        self.assertEqual(told.text, text)
        self.assertEqual(made.names, told.names)
        for other in told.names:
            if other != name:
                self.assertEqual(made[other], told[other])
        function, old = made[name], told[name]
        self.assertEqual((function.parameters, function.result), (old.parameters, old.result))
        self.assertEqual(function.variables[:len(old.variables)], old.variables)
        news = function.names[len(old.names):]
        self.assertEqual([function.kind(new) for new in news], [told[old[index][0][2]].kind(name)
                         for name in told[old[index][0][2]].names])
        letters = dict(zip("ABCDEFGH", news))
        for letter, new in letters.items():
            wanted = [line.replace(letter, new) for line in wanted]
        self.assertEqual(function.text[1:], tuple(wanted))

    def test_arguments_touches_and_a_result(self):
        told = program(
            "def main(a own, q full): r look", "skip", "call r = g(lend a.f, move q, lend r) -> 0 2", "return",
            "def g(a look, b full, c look) look: d own", "new d -> 0 1", "lend a = b.g -> 0 2", "return a",
        )
        self.check(told, "main", 1, [
            "skip", "skip -> 3", "return",
            "lend A = a.f", "move B = q", "lend C = r", "touch A look", "touch B full", "touch C look",
            "new D -> 9 10", "lend A = B.g -> 9 11", "move r = A",
            "drop A", "drop B", "drop C", "drop D -> 0 2",
        ])

    def test_several_returns(self):
        told = program(
            "def main(a own)", "call a = g(move a) -> 0 1", "return",
            "def g(x own) own: y own", "copy y = x -> 1 2", "return x", "return y",
        )
        self.check(told, "main", 0, [
            "skip -> 2", "return", "move A = a", "copy B = A -> 4 5",
            "move a = A -> 6", "move a = B -> 8", "drop A", "drop B -> 0 1", "drop A", "drop B -> 0 1",
        ])

    def test_the_nexts_of_copied_lines_and_of_drops(self):
        told = program(
            "def main(a own)", "call a = g(move a) -> 0 1", "return",
            "def g(x own) own: y own", "copy y = x -> 1 2", "return x", "return y",
        )
        lines = inlined(told, "main", 0)["main"].lines
        self.assertEqual([nexts for _, nexts in lines],
                         [(2,), (), (3,), (4, 5), (6,), (8,), (7,), (0, 1), (9,), (0, 1)])

    def test_no_arguments_no_result_no_variables(self):
        told = program("def main()", "call g() -> 0 1", "return", "def g()", "skip -> 0 1", "return")
        self.check(told, "main", 0, ["skip -> 2", "return", "skip -> 2 3", "skip -> 0 1"])

    def test_no_return(self):
        told = program("def main(a own)", "call g(lend a)", "return", "def g(p look)", "skip -> 0")
        self.check(told, "main", 0, ["skip -> 2", "return", "lend A = a", "touch A look", "skip -> 4"])
        told = program("def main()", "return", "def t()", "call g()", "return", "def g()", "skip -> 0")
        self.check(told, "t", 0, ["skip -> 2", "return", "skip -> 2"])

    def test_variables_without_parameters(self):
        told = program("def main()", "call g()", "return", "def g(): x own", "new x", "return")
        self.check(told, "main", 0, ["skip -> 2", "return", "new A", "skip", "drop A -> 1"])

    def test_calls_of_the_function_itself(self):
        told = program("def t(p full)", "call t(lend p.f)", "return")
        self.check(told, "t", 0, [
            "skip -> 2", "return", "lend A = p.f", "touch A full", "call t(lend A.f)", "skip", "drop A -> 1",
        ])

    def test_one_line_that_is_left(self):
        told = program("def t()", "call g()", "return", "def g()", "return")
        self.check(told, "t", 0, ["skip -> 2", "return", "skip -> 1"])

    def test_names_that_are_taken(self):
        told = program("def t(a own, c own): b own, d own", "call g(move a)", "return",
                       "def g(a own): c own, b own", "return")
        made = inlined(told, "t", 0)["t"]
        self.assertEqual(len(set(made.names)), 7)
        self.assertEqual(made.text[3], f"move {made.names[4]} = a")

    def test_too_many_variables(self):
        head = "def t(a own): b own, c own, d own, e own"
        for many, is_good in ((3, True), (4, False)):
            others = ", ".join(f"{name} own" for name in "wxyz"[:many - 1])
            told = program(head, "call g(move a)", "return", f"def g(p own): {others}", "return")
            if is_good:
                self.assertEqual(len(inlined(told, "t", 0)["t"].names), 8)
            else:
                check_raises(self, InvalidOperation, inlined, told, "t", 0)

    def test_too_many_lines(self):
        # 2 lines of its own, 1 argument, 1 touch, the lines of g, and a drop for its return.
        for many, is_good in ((35, True), (36, False)):
            told = program("def t(a own)", "call g(lend a)", "return",
                           "def g(p look)", *["skip"] * (many - 1), "return")
            if is_good:
                self.assertEqual(len(inlined(told, "t", 0)["t"]), 40)
            else:
                check_raises(self, InvalidOperation, inlined, told, "t", 0)

    def test_errors(self):
        told = LAST.with_function(Function.from_lines("def c(p full)", "call p = last(move p)", "skip", "return"))
        programs = [pair for pair in wrong_for(InvalidProgram) if not isinstance(pair[0], Program)]
        names = wrong_for(UnknownName, "p", "get", "", LAST["last"])
        numbers = wrong_for(InvalidNumber, 3, -1, "0", "c")
        check_errors(self, inlined, (told, "c", 0), [programs, names, numbers],
                     [(2, 1, InvalidOperation), (2, 2, InvalidOperation)])
        for value in odd_values():
            check_raises(self, UnknownName, inlined, told, value, 1)
        check_raises(self, InvalidOperation, inlined, KEEP, "keep", 0)


if __name__ == "__main__":
    unittest.main()
