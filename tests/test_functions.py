import itertools
import unittest

from loanpairs.base import functions
from loanpairs.base.functions import Function
from loanpairs.errors import InvalidFunction, InvalidNumber, InvalidOperation, InvalidWord, UnknownName
from tests.helper import LAST_LINES, check_raises, last, odd_values

SKIP = (("skip",), (0,))
BACK = (("return", ""), ())
OF_KINDS = (("f", "full"), ("g", "full"), ("l", "look"), ("m", "look"), ("o", "own"), ("p", "own"))
NUMBERS = (3, -1, -2, 10 ** 59, -(10 ** 59), 10 ** 60, 10 ** 99, True, False, None, "0", (0,), [0], {0: 0}, ())


def made(lines, result="", variables=OF_KINDS):
    return Function("h", (), result, variables, lines)


def with_step(step, result=""):
    nexts = () if step[0] == "return" else (0,)
    return made(((step, nexts),), result)


def example():
    return Function.from_lines(
        "def f(a own, b full) look: c look, d own", "lend c = b.x -> 1 2", "call d = g(lend c, move d) -> 0 2 4",
        "touch a.x full", "call f(move a) -> 3", "return c",
    )


class Interface(unittest.TestCase):
    def test_constants(self):
        told = (functions.MAX_PARAMETERS, functions.MAX_VARIABLES, functions.MAX_LINES, functions.MAX_NEXTS)
        self.assertEqual(told, (3, 8, 40, 3))

    def test_all_is_defined_where_it_is_listed(self):
        for value in (functions.is_step, functions.write_step, functions.read_step, Function):
            self.assertEqual(value.__module__, "loanpairs.base.functions")
        methods = (
            "called parameters result variables lines names calls text from_lines kind ahead with_line renamed"
            " __getitem__ __contains__ __len__ __eq__ __str__"
        )
        for name in methods.split():
            self.assertIn(name, vars(Function))

    def test_example(self):
        told = last()
        shown = [told[1], told.names, told.ahead(2), told.text[2], str(told)]
        wanted = [
            (("lend", "p", "p", "next"), (1, 2)), ("p",), (0, 1), "lend p = p.next -> 1 2", "def last(p full) full",
        ]
        self.assertEqual(shown, wanted)

    def test_example_of_an_error(self):
        lines = ((("lend", "q", "p", ""), (1,)), (("return", ""), ()))
        check_raises(self, InvalidFunction, Function, "f", (("p", "look"),), "", (("q", "full"),), lines)


class Called(unittest.TestCase):
    """[0.10] [0.4]"""

    def test_names(self):
        for name in ("a", "f", "abcdefgh"):
            self.assertEqual(Function(name, (), "", (), (BACK,)).called, name)

    def test_wrong_names_come_first(self):
        for name in odd_values() + ["", "abcdefghi", "def", "own", ("f",), ["f"], 0]:
            check_raises(self, InvalidWord, Function, name, (), "", (), (BACK,))
            check_raises(self, InvalidWord, Function, name, None, "none", [], [])

    def test_a_variable_can_have_this_name(self):
        lines = ((("call", "f", "f", (("lend", "f", "f"),)), (0,)),)
        self.assertEqual(Function("f", (("f", "own"),), "", (), lines).names, ("f",))


class Variables(unittest.TestCase):
    """[0.8] [0.10]"""

    def function(self, parameters, variables, result=""):
        return Function("f", parameters, result, variables, (SKIP,))

    def refused(self, parameters, variables, result=""):
        check_raises(self, InvalidFunction, Function, "f", parameters, result, variables, (SKIP,))

    def test_at_most_three_parameters(self):
        pairs = tuple((name, "own") for name in "abcd")
        for many in range(4):
            self.assertEqual(self.function(pairs[:many], ()).parameters, pairs[:many])
        self.refused(pairs, ())

    def test_at_most_eight_variables(self):
        pairs = tuple((name, "look") for name in "abcdefghi")
        for many in range(4):
            self.assertEqual(self.function(pairs[:many], pairs[many:8]).names, tuple("abcdefgh"))
            self.refused(pairs[:many], pairs[many:])
        self.refused((), tuple(("a" * many, "own") for many in range(1, 9)) + (("z", "own"),))

    def test_names_twice(self):
        one, other = ("a", "own"), ("b", "look")
        self.refused((one, one), ())
        self.refused((), (one, other, one))
        self.refused((one,), (one,))
        self.refused((other, one), (("a", "full"),))

    def test_kinds(self):
        for kind in ("full", "look", "own"):
            self.assertEqual(self.function((("a", kind),), (("b", kind),)).kind("b"), kind)
        for kind in ("", "Full", "copy", "fields", None, True, 0, (), ["own"], ("own",)):
            self.refused((("a", kind),), ())
            self.refused((), (("a", kind),))

    def test_names(self):
        for name in ("", "A", "own", "abcdefghi", "a.b", None, 1, ("a",), ["a"]):
            self.refused(((name, "own"),), ())
            self.refused((), ((name, "own"),))

    def test_no_pairs(self):
        for pair in (("a",), ("a", "own", ""), ["a", "own"], {"a": "own"}, "a own", "ab", None, ()):
            self.refused((pair,), ())
            self.refused((), (pair,))

    def test_no_tuples(self):
        for pairs in ([], [("a", "own")], {}, {"a": "own"}, "", "a own", None, 0, True, ("a", "own")):
            self.refused(pairs, ())
            self.refused((), pairs)

    def test_other_values(self):
        for value in odd_values():
            self.refused((value,), ())
            self.refused((), (value,))
            self.refused((("a", value),), ())
            self.refused((), ((value, "own"),))
            if value != {} and value != ():
                self.refused(value, ())
                self.refused((), value)

    def test_results(self):
        for result in ("", "full", "look", "own"):
            self.assertEqual(self.function((), (), result).result, result)
        for result in odd_values() + ["Own", " ", "copy", 0, (), ("own",), ["own"], None]:
            self.refused((), (), result)


class Lines(unittest.TestCase):
    """[0.10]"""

    def refused(self, lines):
        check_raises(self, InvalidFunction, Function, "h", (), "", OF_KINDS, lines)

    def test_one_to_forty(self):
        for many in (1, 2, 39, 40):
            self.assertEqual(len(made((SKIP,) * many)), many)
        for many in (0, 41, 42, 400):
            self.refused((SKIP,) * many)

    def test_no_lines(self):
        wrong = (
            [], [SKIP], {}, "skip", None, ("skip",), (("skip",),), ((("skip",),),), (SKIP[0],), (list(SKIP),),
            (SKIP + ((),),), ((SKIP,),), (None,), (1,), ("skip -> 0",), (["skip"], (0,)), (((("skip"),), [0]),),
        )
        for lines in wrong:
            self.refused(lines)

    def test_other_values(self):
        for value in odd_values():
            self.refused(value)
            self.refused((value,))
            self.refused((SKIP, value))
            self.refused((SKIP, (value, (0,))))
            self.refused((SKIP, (("skip",), value)))
            self.refused((SKIP, (("skip",), (value,))))

    def test_one_to_three_nexts(self):
        for nexts in ((0,), (0, 3), (1, 2, 3), (0, 1, 3)):
            lines = ((("skip",), nexts),) + (SKIP,) * 3
            self.assertEqual(made(lines)[0], (("skip",), nexts))
        for nexts in ((), (0, 1, 2, 3), [0], {0: 0}, 0, None, "0"):
            self.refused(((("skip",), nexts),) + (SKIP,) * 3)

    def test_nexts_ascend(self):
        for nexts in ((1, 0), (0, 0), (0, 2, 1), (0, 1, 1), (2, 1, 0)):
            self.refused(((("skip",), nexts),) + (SKIP,) * 3)

    def test_nexts_beyond_the_function(self):
        for many in (1, 2, 40):
            for index in (many, many + 1, -1, -many, 10 ** 59, 10 ** 60 - 1, 1 - 10 ** 60, 10 ** 60, 10 ** 99):
                self.refused((SKIP,) * (many - 1) + ((("skip",), (index,)),))
                self.refused((SKIP,) * (many - 1) + ((("skip",), tuple(sorted((0, index)))),))

    def test_nexts_are_integers(self):
        for index in (True, False, None, "1", (1,), [1]):
            self.refused((SKIP, (("skip",), (index,))))
        self.refused((SKIP, (("skip",), (0, True))))
        self.refused((SKIP, (("skip",), (False, 1))))

    def test_a_return_has_no_nexts(self):
        self.assertEqual(made((BACK,))[0], BACK)
        for nexts in ((0,), (1,), [], {}, None, "", 0, ((),)):
            self.refused(((("return", ""), nexts),))

    def test_only_steps(self):
        for step in (("move", "o", "o"), ("copy", "o", "o", ""), ("new", "o", ""), ["skip"], "skip", ("skip", ""), ()):
            self.refused((SKIP, (step, (0,))))

    def test_only_variables(self):
        steps = (
            ("new", "x"), ("copy", "x", "o", ""), ("copy", "o", "x", ""), ("take", "o", "x", ""), ("put", "x", "", "o"),
            ("put", "o", "", "x"), ("lend", "x", "o", ""), ("lend", "f", "x", ""), ("lend", "x", "x", ""),
            ("lend", "l", "x", ""), ("move", "x", "o"), ("move", "o", "x"), ("touch", "x", "", "look"),
            ("touch", "x", "", "full"), ("drop", "x"), ("call", "x", "g", ()), ("call", "", "g", (("move", "x"),)),
            ("call", "o", "g", (("move", "o"), ("lend", "x", "f"))), ("move", "x", "y"),
        )
        for step in steps:
            self.refused(((step, (0,)),))
        for result in ("", "own"):
            lines = ((("return", "x"), ()),)
            check_raises(self, InvalidFunction, Function, "h", (), result, OF_KINDS, lines)

    def test_fields_and_called_functions_are_not_judged(self):
        steps = (
            ("touch", "o", "any", "full"), ("call", "o", "any", ()), ("call", "", "h", (("move", "l"),) * 3),
            ("call", "f", "h", (("lend", "l", "any"),)), ("call", "l", "h", ()),
        )
        for step in steps:
            self.assertEqual(with_step(step)[0][0], step)


class Kinds(unittest.TestCase):
    """[0.8] [0.9]: the kinds that each step wants."""

    def check(self, step, wanted, result=""):
        if wanted:
            self.assertEqual(with_step(step, result)[0][0], step)
        else:
            nexts = () if step[0] == "return" else (0,)
            check_raises(self, InvalidFunction, Function, "h", (), result, OF_KINDS, ((step, nexts),))

    def pairs(self):
        return [pair for pair in itertools.product(OF_KINDS, repeat=2) if pair[0] != pair[1]]

    def test_new(self):
        for name, kind in OF_KINDS:
            self.check(("new", name), kind == "own")

    def test_copy(self):
        for (name, kind), (other, _) in self.pairs():
            for part in ("", "x"):
                self.check(("copy", name, other, part), kind == "own")

    def test_take(self):
        for (name, kind), (other, given) in self.pairs():
            for part in ("", "x"):
                self.check(("take", name, other, part), kind == "own" and given != "look")

    def test_put(self):
        for (name, kind), (other, given) in self.pairs():
            for part in ("", "x"):
                self.check(("put", name, part, other), kind != "look" and given == "own")

    def test_lend(self):
        for (name, kind), (other, given) in itertools.product(OF_KINDS, repeat=2):
            wanted = kind == "look" or kind == "full" and given != "look"
            for part in ("", "x"):
                self.check(("lend", name, other, part), wanted)

    def test_move(self):
        for (name, kind), (other, given) in self.pairs():
            self.check(("move", name, other), kind == given)

    def test_touch(self):
        for name, kind in OF_KINDS:
            for part in ("", "x"):
                self.check(("touch", name, part, "look"), True)
                self.check(("touch", name, part, "full"), kind != "look")

    def test_drop_and_skip(self):
        self.check(("skip",), True)
        for name, _ in OF_KINDS:
            self.check(("drop", name), True)

    def test_return(self):
        for result in ("", "full", "look", "own"):
            self.check(("return", ""), result == "", result)
            for name, kind in OF_KINDS:
                self.check(("return", name), kind == result, result)

    def test_call(self):
        for name, _ in OF_KINDS:
            self.check(("call", name, "g", (("move", name), ("lend", name, ""))), True)


class Properties(unittest.TestCase):
    """[2.2]"""

    def test_each(self):
        told = example()
        self.assertEqual(told.called, "f")
        self.assertEqual(told.parameters, (("a", "own"), ("b", "full")))
        self.assertEqual(told.result, "look")
        self.assertEqual(told.variables, (("c", "look"), ("d", "own")))
        self.assertEqual(told.names, ("a", "b", "c", "d"))
        self.assertEqual(told.calls, ("f", "g"))
        lines = (
            (("lend", "c", "b", "x"), (1, 2)),
            (("call", "d", "g", (("lend", "c", ""), ("move", "d"))), (0, 2, 4)),
            (("touch", "a", "x", "full"), (3,)),
            (("call", "", "f", (("move", "a"),)), (3,)),
            (("return", "c"), ()),
        )
        self.assertEqual(told.lines, lines)

    def test_the_text(self):
        told = example()
        wanted = (
            "def f(a own, b full) look: c look, d own", "lend c = b.x -> 1 2",
            "call d = g(lend c, move d) -> 0 2 4", "touch a.x full", "call f(move a) -> 3", "return c",
        )
        self.assertEqual(told.text, wanted)

    def test_calls_are_ascending_and_stand_once(self):
        names = ("h", "b", "h", "a", "bb", "b")
        told = made(tuple((("call", "", name, ()), (0,)) for name in names))
        self.assertEqual(told.calls, ("a", "b", "bb", "h"))
        self.assertEqual(made((SKIP,)).calls, ())

    def test_names_are_in_order(self):
        told = Function("f", (("z", "own"), ("b", "own")), "", (("y", "own"), ("a", "own")), (SKIP,))
        self.assertEqual(told.names, ("z", "b", "y", "a"))
        self.assertEqual(Function("f", (), "", (), (SKIP,)).names, ())

    def test_none_can_be_assigned(self):
        for name in "called parameters result variables lines names calls text".split():
            told = last()
            with self.assertRaises(AttributeError):
                setattr(told, name, ())
            self.assertEqual(told, last())


class Asking(unittest.TestCase):
    """[2.2] [1.3]"""

    def test_lines_by_index(self):
        told = example()
        self.assertEqual(tuple(told[index] for index in range(5)), told.lines)

    def test_lines_by_a_wrong_index(self):
        for index in NUMBERS + tuple(odd_values()):
            error = check_raises(self, InvalidNumber, lambda index: last()[index], index)
            self.assertIs(error.given, index)

    def test_the_kind(self):
        told = example()
        self.assertEqual([told.kind(name) for name in "abcd"], ["own", "full", "look", "own"])

    def test_the_kind_of_a_wrong_name(self):
        for name in odd_values() + ["", "q", "next", "last", "f", ("p",), ["p"], 0]:
            error = check_raises(self, UnknownName, last().kind, name)
            self.assertIs(error.wanted, name)

    def test_ahead(self):
        told = example()
        self.assertEqual([told.ahead(index) for index in range(5)], [(1,), (0,), (0, 1), (2, 3), (1,)])
        self.assertEqual(made((BACK,)).ahead(0), ())

    def test_ahead_of_a_wrong_index(self):
        for index in NUMBERS + tuple(odd_values()):
            error = check_raises(self, InvalidNumber, last().ahead, index)
            self.assertIs(error.given, index)

    def test_variables_are_in_it(self):
        told = example()
        for name in "abcd":
            self.assertIs(name in told, True)

    def test_other_values_are_not_in_it(self):
        told = example()
        for value in odd_values() + ["", "e", "f", "g", "x", 0, told, told[0], ("a", "own"), ["a"]]:
            self.assertIs(value in told, False)

    def test_the_length(self):
        self.assertEqual([len(last()), len(example()), len(made((BACK,)))], [3, 5, 1])

    def test_the_head(self):
        self.assertEqual(str(example()), "def f(a own, b full) look: c look, d own")
        self.assertEqual(str(made((BACK,), "", ())), "def h()")
        self.assertEqual(str(made((SKIP,), "own", (("a", "look"),))), "def h() own: a look")

    def test_it_cannot_be_iterated_over(self):
        told = last()
        for action in (iter, list, tuple, set, sorted, enumerate):
            check_raises(self, TypeError, action, told)
        with self.assertRaises(TypeError):
            _, _, _ = told
        with self.assertRaises(TypeError):
            for _ in told:
                self.fail("it was iterated over")


class Equality(unittest.TestCase):
    """[2.2] [0.2]"""

    def check(self, one, other, wanted):
        self.assertIs(one == other, wanted)
        self.assertIs(other == one, wanted)
        self.assertIs(one != other, not wanted)
        self.assertIs(other != one, not wanted)

    def test_equal_in_all_five(self):
        self.check(last(), last(), True)
        self.check(example(), example(), True)
        by_parts = Function("last", (("p", "full"),), "full", (), last().lines)
        self.check(last(), by_parts, True)

    def test_unequal_in_one(self):
        pairs = (("a", "own"), ("b", "own"))
        lines = ((("skip",), (0,)),)
        one = Function("f", pairs, "own", (), lines)
        others = (
            Function("g", pairs, "own", (), lines), Function("f", pairs[::-1], "own", (), lines),
            Function("f", pairs, "look", (), lines), Function("f", pairs[:1], "own", pairs[1:], lines),
            Function("f", pairs, "own", (("c", "own"),), lines), Function("f", pairs, "own", (), lines * 2),
            Function("f", (("a", "own"), ("b", "full")), "own", (), lines),
            Function("f", pairs, "own", (), ((("new", "a"), (0,)),)),
        )
        for other in others:
            self.check(one, other, False)
        for parts in (("a", "x"), ("b", "")):
            other = Function("f", pairs, "own", (), ((("touch",) + parts + ("look",), (0,)),))
            self.check(other, Function("f", pairs, "own", (), ((("touch", "a", "", "look"), (0,)),)), False)

    def test_unequal_nexts(self):
        one = made(((("skip",), (0, 1)), BACK))
        self.check(one, made(((("skip",), (0,)), BACK)), False)
        self.check(one, made(((("skip",), (1,)), BACK)), False)

    def test_other_values(self):
        told = example()
        for value in odd_values() + [told.text, told.lines, str(told), "f"]:
            self.check(told, value, False)


class WithLine(unittest.TestCase):
    """[2.2] [0.4]"""

    def test_another_line(self):
        told = last()
        changed = told.with_line(1, ("touch", "p", "val", "full"), 0, 2)
        wanted = (LAST_LINES[0], LAST_LINES[1], "touch p.val full -> 0 2", LAST_LINES[3])
        self.assertEqual(changed.text, wanted)
        self.assertIs(changed.__class__, Function)
        self.assertEqual(told.text, LAST_LINES)

    def test_first_and_last_line(self):
        self.assertEqual(last().with_line(0, ("return", "p")).text[1], "return p")
        self.assertEqual(last().with_line(2, ("skip",), 2).text[3], "skip -> 2")
        self.assertEqual(last().with_line(0, ("skip",), 0, 1, 2).text[1], "skip -> 0 1 2")

    def test_all_else_stays(self):
        told = example()
        changed = told.with_line(2, ("skip",), 3)
        self.assertEqual((changed.called, changed.parameters), (told.called, told.parameters))
        self.assertEqual((changed.result, changed.variables), (told.result, told.variables))
        self.assertEqual(changed.lines[:2] + changed.lines[3:], told.lines[:2] + told.lines[3:])
        self.assertEqual(told.with_line(2, *[told[2][0], *told[2][1]]), told)

    def test_a_wrong_index_comes_first(self):
        for index in NUMBERS + tuple(odd_values()):
            for rest in ((("skip",), 0), (None,), ("skip", "a"), (("skip",),)):
                error = check_raises(self, InvalidNumber, last().with_line, index, *rest)
                self.assertIs(error.given, index)

    def test_wrong_lines(self):
        wrong = (
            (("skip",),), (("skip",), 3), (("skip",), -1), (("skip",), 1, 0), (("skip",), 0, 0), (("skip",), True),
            (("skip",), 0, 1, 2, 3), (("skip",), (0, 1)), (("skip",), [0]), (("skip",), 10 ** 60), (("skip",), None),
            (("return", "p"), 0), (("return", ""),), (("new", "p"), 0), (("touch", "q", "", "look"), 0),
            ("skip", 0), (["skip"], 0), (None, 0), ((("skip",), (0,)),),
        )
        for rest in wrong:
            told = last()
            check_raises(self, InvalidFunction, told.with_line, 1, *rest)
            self.assertEqual(told, last())

    def test_other_values(self):
        for value in odd_values():
            check_raises(self, InvalidFunction, last().with_line, 1, value, 0)
            check_raises(self, InvalidFunction, last().with_line, 1, ("skip",), value)


class Renamed(unittest.TestCase):
    """[2.2] [0.4]"""

    def test_all_names_in_all_steps(self):
        lines = (
            "def f(a own, b full) full: c look, d own", "new a", "copy a = b.a", "take a = d", "put b.a = d",
            "lend c = b", "lend b = b.b", "move a = d", "touch c.c look", "drop d", "call d = a(lend c.d, move a)",
            "call b(move c)", "call a = f()", "skip", "return b",
        )
        wanted = (
            "def f(w own, x full) full: y look, z own", "new w", "copy w = x.a", "take w = z", "put x.a = z",
            "lend y = x", "lend x = x.b", "move w = z", "touch y.c look", "drop z", "call z = a(lend y.d, move w)",
            "call b(move y)", "call w = f()", "skip", "return x",
        )
        told = Function.from_lines(*lines)
        names = {"a": "w", "b": "x", "c": "y", "d": "z"}
        self.assertEqual(told.renamed(names).text, wanted)
        self.assertEqual(names, {"a": "w", "b": "x", "c": "y", "d": "z"})
        self.assertEqual(told.text, lines)

    def test_a_return_of_nothing(self):
        told = Function.from_lines("def f(a own)", "drop a", "return")
        self.assertEqual(told.renamed({"a": "b"}).text, ("def f(b own)", "drop b", "return"))

    def test_names_that_change_places(self):
        told = Function.from_lines("def f(a own, b own) own: c own", "move a = b", "move c = a", "return c")
        changed = told.renamed({"a": "b", "b": "c", "c": "a"})
        self.assertEqual(changed.text, ("def f(b own, c own) own: a own", "move b = c", "move a = b", "return a"))
        self.assertEqual(told.renamed({"c": "c", "b": "a", "a": "b"}).text[:2],
                         ("def f(b own, a own) own: c own", "move b = a"))

    def test_equal_names(self):
        self.assertEqual(last().renamed({"p": "p"}), last())
        self.assertEqual(Function("f", (), "", (), (BACK,)).renamed({}), Function("f", (), "", (), (BACK,)))

    def test_the_result_is_new(self):
        names = {"p": "q"}
        changed = last().renamed(names)
        names["p"] = "r"
        self.assertEqual(changed.names, ("q",))
        self.assertIs(changed.__class__, Function)

    def test_other_keys(self):
        told = Function.from_lines("def f(a own): b own", "skip -> 0")
        wrong = (
            {}, {"a": "x"}, {"b": "x"}, {"a": "x", "c": "y"}, {"a": "x", "b": "y", "c": "z"}, {"x": "a", "y": "b"},
            {"a": "x", "b": "y", 1: "z"}, {"a": "x", None: "y"}, {"a": "x", ("b",): "y"}, {"a": "x", "f": "y"},
        )
        for names in wrong:
            check_raises(self, InvalidOperation, told.renamed, names)

    def test_other_names(self):
        told = Function.from_lines("def f(a own): b own", "skip -> 0")
        for name in odd_values() + ["", "x", "own", "skip", "abcdefghi", "X", 0, ("y",), ["y"]]:
            check_raises(self, InvalidOperation, told.renamed, {"a": "x", "b": name})
            check_raises(self, InvalidOperation, told.renamed, {"b": "x", "a": name})

    def test_other_values(self):
        told = Function.from_lines("def f(a own): b own", "skip -> 0")
        for names in odd_values() + [(("a", "x"), ("b", "y")), [("a", "x"), ("b", "y")], ("a", "b"), "ab", None]:
            check_raises(self, InvalidOperation, told.renamed, names)
            self.assertEqual(told.names, ("a", "b"))
