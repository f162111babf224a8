"""What can be look, where marks are needed, and programs without touches."""

import itertools
import random
import unittest

from loanpairs.base.functions import Function
from loanpairs.base.programs import Program
from loanpairs.core.walks import Walk
from loanpairs.decide.papers import is_sound
from loanpairs.decide.shortest import Fewest
from loanpairs.decide.tables import Table
from loanpairs.errors import InvalidFunction, InvalidNumber, InvalidOperation, InvalidProgram, NotReached, UnknownName
from loanpairs.use.advice import can_be_look, is_lowering, lowered, mark_walks, marks, without_touches
from tests.helper import CACHE, KEEP, LAST, LATE, check_errors, check_judge, check_raises, odd_values, program, wrong_for
from tests.makers import random_program

UP = program("def up(p full) full: q full, x own", "lend q = p.f -> 1 2", "new x", "touch q look -> 3 4", "drop x",
             "return q", fields="f")


def full_pairs(told):
    found = [(f.called, name) for f in told.functions for name in f.names if f.kind(name) == "full"]
    return sorted(found + [(f.called, "") for f in told.functions if f.result == "full"])


def with_looks(told, pairs):
    """The program with these pairs lowered, or None if there is none; made by its text."""
    lines = [told.text[0]]
    for function in told.functions:
        def listed(variables):
            return ", ".join(f"{name} {'look' if (function.called, name) in pairs else kind}" for name, kind in variables)
        result = "look" if (function.called, "") in pairs else function.result
        head = f"def {function.called}({listed(function.parameters)})" + (f" {result}" if result else "")
        lines += [head + (f": {listed(function.variables)}" if function.variables else ""), *function.text[1:]]
    try:
        return Program.from_lines(*lines)
    except InvalidProgram:
        return None


def subsets(pairs):
    return [some for many in range(len(pairs) + 1) for some in itertools.combinations(pairs, many)]


def outcomes(told):
    return {name: Table(told).outcomes_of(name) for name in told.names}


class Lowering(unittest.TestCase):
    def test_examples(self):
        self.assertEqual(
            [can_be_look(UP), is_lowering(UP, (("up", "q"),)), lowered(UP, can_be_look(UP)).text[1]],
            [(("up", ""), ("up", "p"), ("up", "q")), False, "def up(p look) look: q look, x own"])

    def check(self, lines, wanted):
        self.assertEqual(can_be_look(program(*lines)), tuple(wanted))

    def test_what_is_taken_put_or_touched_fully(self):
        head = "def t(p full): q full, x own"
        self.check((head, "lend q = p", "take x = q.f", "return"), [])
        self.check((head, "lend q = p", "put q.f = x", "return"), [])
        self.check((head, "lend q = p", "touch q full", "return"), [])
        self.check((head, "lend q = p", "touch p full", "return"), [("t", "q")])
        self.check((head, "lend q = p", "touch q look", "copy x = q.f", "return"), [("t", "p"), ("t", "q")])
        self.check((head, "drop q", "drop p", "return"), [("t", "p"), ("t", "q")])

    def test_loans(self):
        lines = ("def t(a own): p full, q full, r full, s look", "lend p = a", "lend q = p", "lend r = q", "lend s = r",
                 "touch q full", "return")
        self.check(lines, [("t", "r")])
        self.check((*lines[:5], "touch s look", "return"), [("t", "p"), ("t", "q"), ("t", "r")])
        self.check(("def t(p full)", "lend p = p.f", "return"), [("t", "p")])
        self.check(("def t(p full): q full", "touch q full", "lend p = q", "return"), [("t", "p")])

    def test_moves(self):
        lines = ("def t(p full): q full, r full, s full", "move q = p", "move r = q", "lend s = r", "touch q full")
        self.check((*lines, "return"), [("t", "s")])
        self.check((*lines[:4], "touch p full", "return"), [("t", "s")])
        self.check((*lines[:4], "touch s full", "return"), [])
        self.check((*lines[:4], "touch s look", "return"), [("t", "p"), ("t", "q"), ("t", "r"), ("t", "s")])

    def test_arguments_and_results(self):
        caller = ("def t(p full, q full) full: r full", "call r = g(lend p, move q)", "return r")
        for use, wanted in (("touch a full", ["q", "r"]), ("touch b full", ["", "p", "r"]), ("touch c full", None)):
            lines = (*caller, "def g(a full, b full) full: c full", "lend c = a", use, "return c")
            found = can_be_look(program(*lines))
            if use == "touch a full":
                self.assertEqual(found, (("g", ""), ("g", "b"), ("g", "c"), ("t", ""), ("t", "q"), ("t", "r")))
            elif use == "touch b full":
                self.assertEqual(found, (("g", ""), ("g", "a"), ("g", "c"), ("t", ""), ("t", "p"), ("t", "r")))
            else:
                self.assertEqual(found, (("g", "b"), ("t", "q")))
        self.check((*caller[:2], "touch r full", "return r", "def g(a full, b full) full", "return b"), [("g", "a"), ("t", "p")])
        self.check((*caller[:2], "return r", "def g(a full, b full) full", "return b"),
                   [("g", ""), ("g", "a"), ("g", "b"), ("t", ""), ("t", "p"), ("t", "q"), ("t", "r")])

    def test_calls_of_itself(self):
        self.check(("def t(p full) full: r full", "call r = t(lend p.f) -> 1 2", "return r", "touch p full", "return p"), [])
        self.check(("def t(p full, q full): r full", "call t(lend q, lend p) -> 1 2", "touch p full", "return"), [("t", "r")])

    def test_lines_that_are_not_reached(self):
        self.check(("def t(p full)", "return", "touch p full -> 0"), [])

    def test_what_is_not_full(self):
        self.check(("def t(p look, a own) look", "return p"), [])
        self.check(("def t(a own) own: b own", "move b = a", "touch b full", "return b"), [])

    def test_by_all_sets(self):
        counted = 0
        for seed in range(200):
            told = random_program(random.Random(seed), 2, 7)
            pairs = full_pairs(told)
            if len(pairs) > 7:
                continue
            greatest = can_be_look(told)
            self.assertEqual(greatest, tuple(sorted(greatest)))
            for some in subsets(pairs):
                made = with_looks(told, some)
                check_judge(self, lambda value: is_lowering(told, value), some, made is not None)
                if made is None:
                    check_raises(self, InvalidOperation, lowered, told, some)
                else:
                    self.assertLessEqual(set(some), set(greatest))
                    self.assertEqual(lowered(told, some), made)
            counted += 0 < len(greatest) < len(pairs)
        self.assertGreater(counted, 30)

    def test_sound_programs_stay_so(self):
        counted = 0
        for seed in range(300):
            told = random_program(random.Random(seed), 2, 8)
            greatest = can_be_look(told)
            if greatest and is_sound(told):
                counted += 1
                made = lowered(told, greatest)
                self.assertIs(is_sound(made), True)
                self.assertEqual(outcomes(made), outcomes(told))
        self.assertGreater(counted, 20)

    def test_the_arguments_stay(self):
        before = UP.text
        self.assertEqual(lowered(UP, ()), UP)
        self.assertEqual(lowered(UP, can_be_look(UP)).text[0], "fields f")
        self.assertEqual(UP.text, before)

    def test_judged(self):
        all_three = (("up", ""), ("up", "p"), ("up", "q"))
        self.assertEqual([is_lowering(UP, ()), is_lowering(UP, all_three)], [True, True])
        for value in [*odd_values(), all_three[::-1], all_three[1:], all_three[:1], list(all_three), all_three + all_three[2:],
                      (*all_three[:2], ("up", "x")), (*all_three, ("up", "z")), (*all_three, ("zz", "a")),
                      (["up", ""], *all_three[1:]), (("up",),), (("up", "p", ""),), (("up", 1),), ((1, "p"),), ("up", "p"),
                      (*all_three[:2], ("up", None)), (("up", "q"), ("up", "q"))]:
            check_judge(self, lambda given: is_lowering(UP, given), value, False)
            check_raises(self, InvalidOperation, lowered, UP, value)

    def test_wrong_programs(self):
        wrong = wrong_for(InvalidProgram, but=(LAST,))
        for action, late in ((can_be_look, ()), (lambda value: is_lowering(value, ()), ()),
                             (lambda value: lowered(value, ()), ())):
            check_errors(self, action, (UP,), [wrong], late)
        check_errors(self, lowered, (UP, ()), [wrong, wrong_for(InvalidOperation)])


def marks_by_words(told, name):
    function, table, found = told[name], Table(told), []
    for index, (step, _) in enumerate(function.lines):
        for owner in sorted(x for x in function.names if function.kind(x) == "own"):
            gives = step[0] in ("new", "copy", "take", "move", "call", "drop") and step[1] == owner
            ends = step[0] == "return" and step[1] != owner
            state = table.state(name, index) or ()
            if (gives or ends) and ("empty", owner) in state and ("held", owner) in state:
                found.append((index, owner))
    return tuple(found)


class Marks(unittest.TestCase):
    def test_example(self):
        self.assertEqual(marks(UP, "up"), ((3, "x"), (4, "x")))

    def check(self, step, wanted, result=""):
        """An owner x that can be empty or held, and a step."""
        told = program(f"def t(y own, p look) {result}: x own, z own".replace(" :", ":"), "skip -> 1 2", "new x", step,
                       "return y" if result else "return", "def g(a own) own", "return a")
        self.assertEqual([pair for pair in marks(told, "t") if pair[0] == 2], [(2, owner) for owner in wanted])

    def test_each_step(self):
        for step in ("new x", "copy x = y.f", "take x = y.f", "move x = y", "call x = g(move y)", "drop x"):
            self.check(step, ["x"])
        for step in ("touch x look", "move z = x", "put y.f = x", "put x.f = y", "copy z = x", "take z = x.f", "skip",
                     "drop y", "new z", "call z = g(move x)", "drop p"):
            self.check(step, [])
        self.check("call x = g(move x)", ["x"])

    def test_returns(self):
        told = program("def t(y own) own: x own, z own", "skip -> 1 2", "new x", "skip -> 3 4 5", "return x", "return y",
                       "return z")
        self.assertEqual(marks(told, "t"), ((4, "x"), (5, "x")))
        told = program("def t(y own): x own, a own", "skip -> 1 3", "new x", "new a", "skip -> 4 5", "drop y", "return")
        self.assertEqual(marks(told, "t"), ((5, "a"), (5, "x"), (5, "y")))

    def test_lines_that_are_not_reached(self):
        told = program("def t(): x own", "skip -> 1 2", "new x", "call f()", "drop x", "return", "def f()", "skip -> 0")
        self.assertEqual([marks(told, "t"), marks(told, "f")], [(), ()])

    def test_no_marks(self):
        for told in (LAST, CACHE, LATE, KEEP):
            self.assertEqual(marks(told, told.names[0]), ())

    def test_by_words(self):
        counted = 0
        for seed in range(120):
            told = random_program(random.Random(seed), 3, 10)
            for name in told.names:
                found = marks(told, name)
                self.assertEqual(found, marks_by_words(told, name))
                for index, owner in found:
                    self.check_walks(told, name, index, owner)
                counted += len(found)
        self.assertGreater(counted, 30)

    def check_walks(self, told, name, index, owner):
        given = mark_walks(told, name, index, owner)
        self.assertIsInstance(given, tuple)
        self.assertEqual(len(given), 2)
        fewest = Fewest(told)
        for lines, word in zip(given, ("empty", "held")):
            walk = Walk(told, lines)
            self.assertEqual(walk.name, name)
            self.assertIn(index, walk.nexts)
            self.assertIn((word, owner), walk.states[-1])
            self.assertEqual(walk.steps, fewest.to(name, index, fact=(word, owner)))

    def test_walks(self):
        self.assertEqual(mark_walks(UP, "up", 3, "x"), (
            (("up", ((0, None), (2, None))),), (("up", ((0, None), (1, None), (2, None))),)))
        self.check_walks(UP, "up", 4, "x")

    def test_errors(self):
        told = program("def t(a own): x own, r full", "skip -> 1 2", "new x", "drop x", "return", "drop x -> 3",
                       fields="f")
        self.assertEqual(marks(told, "t"), ((2, "x"),))
        wrong = wrong_for(InvalidProgram, but=(LAST,))
        check_errors(self, marks, (told, "t"), [wrong, wrong_for(UnknownName, "x", "")])
        indices = wrong_for(InvalidNumber, 5, 10 ** 59, "2")
        late = [(3, value, InvalidOperation) for value in [*odd_values(), "", "a", "r", "z", "t"]]
        late += [(2, 0, InvalidOperation), (2, 1, InvalidOperation), (2, 3, InvalidOperation), (2, 4, NotReached)]
        check_errors(self, mark_walks, (told, "t", 2, "x"), [wrong, wrong_for(UnknownName, "x", ""), indices], late)
        for owner in ("x", "r", 7):
            error = check_raises(self, NotReached, mark_walks, told, "t", 4, owner)
            self.assertEqual(error.point, 4)


class WithoutTouches(unittest.TestCase):
    told = program("def t(p full, a own): r look", "touch p.f full -> 1 2", "lend r = a", "touch r look",
                   "drop r -> 0 4", "drop a", "return", "def u(p full)", "touch p full", "drop p", "skip", "return")

    def test_all_and_some(self):
        lines = ("def t(p full, a own): r look", "skip -> 1 2", "lend r = a", "skip", "skip -> 0 4", "drop a", "return")
        t, u = self.told["t"], self.told["u"]
        self.assertEqual(without_touches(self.told, "t")["t"].text, lines)
        self.assertEqual(without_touches(self.told, "t")["u"], u)
        self.assertEqual(without_touches(self.told, "u")["t"], t)
        self.assertEqual(without_touches(self.told, "u")["u"].text[1:], ("skip", "skip", "skip", "return"))
        both = without_touches(self.told)
        self.assertEqual(both, without_touches(self.told, "u", "t", "u"))
        self.assertEqual(both, without_touches(without_touches(self.told, "u"), "t"))
        self.assertEqual(self.told["t"].text[1], "touch p.f full -> 1 2")

    def test_nexts_stay(self):
        for name in self.told.names:
            before, behind = self.told[name].lines, without_touches(self.told)[name].lines
            self.assertEqual([nexts for _, nexts in before], [nexts for _, nexts in behind])

    def test_sound_programs_stay_so(self):
        counted = 0
        for seed in range(200):
            told = random_program(random.Random(seed), 2, 8)
            if is_sound(told):
                counted += 1
                for names in ((), told.names[:1]):
                    made = without_touches(told, *names)
                    self.assertIs(is_sound(made), True)
                    self.assertEqual(outcomes(made), outcomes(told))
        self.assertGreater(counted, 30)

    def test_errors(self):
        wrong = wrong_for(InvalidProgram, but=(LAST,))
        names = wrong_for(UnknownName, "", "x")
        check_errors(self, without_touches, (self.told,), [wrong])
        check_errors(self, without_touches, (self.told, "t"), [wrong, names])
        check_errors(self, without_touches, (self.told, "t", "u"), [wrong, names, names])
        self.assertEqual(check_raises(self, UnknownName, without_touches, self.told, "t", "v", "w").wanted, "v")


if __name__ == "__main__":
    unittest.main()
