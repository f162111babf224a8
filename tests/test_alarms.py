"""The usual check: what references may hold, what is wanted, and alarms."""

import random
import types
import unittest

from loanpairs.core.walks import Walk
from loanpairs.decide.papers import faulting_walk, is_sound
from loanpairs.decide.tables import Table
from loanpairs.errors import InvalidProgram, UnknownName
from loanpairs.use.alarms import alarms, each_alarm, may_hold, wanted
from tests.helper import CACHE, KEEP, LAST, LATE, check_errors, program, wrong_for
from tests.makers import random_program
from tests.usual import Usual


class Holding(unittest.TestCase):
    def test_examples(self):
        self.assertEqual(may_hold(KEEP, "keep"), {"b": ((0, 0),), "c": ((0, 0), (1, 0))})
        self.assertEqual(list(may_hold(KEEP, "keep")), ["b", "c"])

    def check(self, wanted_dict, *lines):
        self.assertEqual(may_hold(program(*lines), "t"), wanted_dict)

    def test_loans_and_loans_of_references(self):
        self.check({"p": (), "r": ((0, 0),), "s": ((0, 0), (1, 0))}, "def t(p full): r full, s look", "lend r = p.f",
                   "lend s = r.g", "return")
        self.check({"p": ((0, 0),)}, "def t(p full)", "lend p = p.f", "return")
        self.check({"r": ((0, 0), (1, 0), (2, 0)), "s": ((0, 0), (1, 0), (2, 0))}, "def t(a own): s look, r look",
                   "lend s = a", "lend r = s", "lend s = r", "return")

    def test_moves(self):
        self.check({"p": (), "r": ((0, 0),), "s": ((0, 0),)}, "def t(p full): s full, r full", "lend r = p", "move s = r",
                   "return")
        self.check({"p": (), "r": ((1, 0),), "s": ((1, 0),)}, "def t(p full): s full, r full", "move s = r", "lend r = p",
                   "return")
        self.check({}, "def t(a own): b own", "move b = a", "return")

    def test_arguments_and_results(self):
        call = ("def t(p full, q full, a own): r full", "lend q = a.f", "call r = g(lend p, move q)", "return")
        # The loan for the first argument has the place 1; the second one passes what q may hold.
        for outcome, wanted_of_r in (("a", ((1, 1),)), ("b", ((0, 0),))):
            self.check({"p": (), "q": ((0, 0),), "r": wanted_of_r}, *call, "def g(a full, b full) full", f"return {outcome}")
        self.check({"p": (), "q": ((0, 0),), "r": ((0, 0), (1, 1))}, *call, "def g(a full, b full) full", "skip -> 1 2",
                   "return a", "return b")
        self.check({"p": (), "q": ((0, 0),), "r": ()}, *call, "def g(a full, b full) full", "skip -> 0")
        self.check({"p": (), "q": ((0, 0),), "r": ((0, 0), (1, 2))}, *call[:2], "call r = g(lend p, lend q)", "return",
                   "def g(a full, b full) full", "lend b = b.g", "return b")

    def test_owners_hold_nothing(self):
        self.check({"r": ((0, 0),)}, "def t(a own): b own, r look", "lend r = a", "copy b = r", "call b = g(move b)", "return",
                   "def g(a own) own", "return a")
        self.check({"r": ((2, 0),)}, "def t(a own): b own, r look", "call b = g(move a)", "move a = b", "lend r = a", "return",
                   "def g(a own) own", "return a")

    def test_lines_that_are_not_reached(self):
        self.check({"r": ((1, 0),)}, "def t(a own): r look", "return", "lend r = a -> 0")

    def test_by_words(self):
        for seed in range(150):
            told = random_program(random.Random(seed), 3, 10)
            for name in told.names:
                usual = Usual(told, name)
                self.assertEqual(may_hold(told, name), {x: usual.held_by(x) for x in usual.references})
                self.assertEqual(list(may_hold(told, name)), usual.references)
                self.assertEqual(wanted(told, name), usual.wanted())


class Wanting(unittest.TestCase):
    def test_examples(self):
        self.assertEqual(wanted(KEEP, "keep"), (("b",), ("c",), ("c",), (), ()))

    def check(self, wanted_rows, *lines):
        self.assertEqual(wanted(program(*lines), "t"), wanted_rows)

    def test_each_need(self):
        head = "def t(p full, q look, a own): r full"
        for step, needed in (("touch p look", "p"), ("copy a = q", "q"), ("take a = p.f", "p"), ("put p.f = a", "p"),
                             ("lend r = p", "p"), ("move r = p", "p"), ("move p = r", "r"), ("drop p", ""), ("new a", ""),
                             ("call g(lend p, lend q)", "pq"), ("call g(lend a, move q)", "q"), ("skip", ""),
                             ("lend p = p.f", "p")):
            self.check(((tuple(needed)), (), ()), head, "skip", step, "return", "def g(x full, y look)", "return")
        self.check((("r",), ()), "def t(r full) full", "skip", "return r")

    def test_fills_and_drops(self):
        head = "def t(p full, a own): r full"
        self.check((("p",), ("r",), (), ()), head, "skip", "lend r = p", "touch r look", "return")
        self.check(((), ("r",), (), ()), head, "skip", "lend r = a", "touch r look", "return")
        self.check((("p",), ("p",), (), ()), head, "skip", "drop p", "touch p look", "return")
        self.check((("r",), ("r",), (), ()), head, "skip", "move p = r", "touch r look", "return")
        self.check((("p",), ("r",), (), ()), head, "skip", "move r = p", "touch r look", "return")
        self.check((("p",), ("r",), (), ()), head, "skip", "call r = g(lend p)", "touch r look", "return", "def g(p full) full",
                   "return p")
        self.check((("p",), ("p",), ("p",)), head, "touch p look", "lend p = p.f", "touch p look -> 1")

    def test_ways(self):
        head = "def t(p look, q look)"
        self.check((("p", "q"), (), (), ()), head, "skip -> 1 2", "touch p look -> 3", "touch q look", "return")
        self.check((("p",), ("p",), ()), head, "touch p look", "skip -> 0 2", "return")
        self.check((("p",), ("p",), (), ()), head, "skip", "call g()", "touch p look", "return",
                   "def g()", "skip -> 0")

    def test_lines_that_are_not_reached(self):
        self.check(((), ("p",), ()), "def t(p look)", "return", "skip", "touch p look -> 0")


class Alarming(unittest.TestCase):
    def test_examples(self):
        self.assertEqual([alarms(LATE, "late"), alarms(LAST, "last"), alarms(CACHE, "get"), alarms(KEEP, "keep")],
                         [((1, (0, 0)),), (), ((2, (0, 0)), (3, (0, 0))), ((2, (0, 0)),)])

    def check(self, wanted_alarms, *lines):
        self.assertEqual(alarms(program(*lines), "t"), tuple(wanted_alarms))

    def test_uses_and_parts(self):
        for kind, use, hit in (("full", "touch a.f look", True), ("look", "touch a.f look", False),
                               ("look", "touch a.f full", True), ("look", "touch a full", True),
                               ("full", "touch a.g full", False), ("full", "copy x = a", True), ("look", "copy x = a", False),
                               ("look", "take x = a.f", True), ("look", "put a.f = x", True), ("look", "put a.g = x", False),
                               ("look", "drop a", True), ("look", "new a", True), ("look", "move x = a", True),
                               ("full", "lend s = a.f", True), ("look", "lend s = a.f", False), ("look", "move a = x", True),
                               ("look", "call g(lend a)", True), ("look", "call h(lend a)", False), ("look", "skip", False),
                               ("full", "call h(lend a)", True), ("look", "call k(move a)", True), ("look", "drop x", False),
                               ("look", "touch x full", False), ("look", "call a = n()", True), ("look", "copy a = x", True)):
            self.check([(1, (0, 0))] if hit else [], f"def t(a own, x own): r {kind}, s look", "lend r = a.f", use,
                       "touch r look", "return", "def g(p full)", "return", "def h(p look)", "return", "def k(p own)", "return",
                       "def n() own: a own", "new a", "return a")

    def test_not_wanted(self):
        head = "def t(a own): r look, s look"
        self.check([], head, "lend r = a", "touch a full", "return")
        self.check([], head, "lend r = a", "touch a full", "lend r = a", "touch r look", "return")
        self.check([(1, (0, 0))], head, "lend r = a", "touch a full -> 2 3", "lend r = a", "touch r look", "return")
        self.check([(2, (0, 0))], head, "lend r = a", "move s = r", "touch a full", "touch s look", "return")

    def test_loans_that_do_not_last(self):
        head = "def t(a own): r look, b own"
        self.check([(1, (0, 0))], head, "lend r = a", "new a", "touch a full", "touch r look", "return")
        self.check([], "def t(p full): r look", "lend r = p.f", "lend p = p.g", "touch p full", "touch r look", "return")
        self.check([], "def t(p full): r full, q full", "lend r = p.f", "lend p = p.g", "touch p full", "move q = r", "return")

    def test_loops(self):
        head = "def t(a own): r full, s full"
        self.check([], head, "lend r = a", "touch r full -> 0 2", "return")
        found = alarms(program(head, "lend r = a.f", "move s = r", "touch s look -> 0 3", "return"), "t")
        self.assertEqual(found, ())
        found = alarms(program(head, "lend r = a.f -> 1 2", "move s = r", "skip -> 0 3", "touch s look", "return"), "t")
        self.assertEqual(found, ((0, (0, 0)),))

    def test_its_own_loan_lasts_only_around_a_loop(self):
        self.check([], "def t(p full) full: r full", "lend r = p.f", "return r")
        self.check([(0, (0, 0))], "def t(p full) full: r full", "lend r = p.f -> 0 1", "return r")

    def test_a_step_that_needs_later(self):
        # The put uses y ahead of needing r, which was lent from y.
        self.check([(1, (0, 0))], "def t(y own): r full", "lend r = y.f", "put r.g = y", "return")
        self.check([], "def t(y own, x own): r full", "lend r = y.f", "put r.g = x", "return")
        self.check([(1, (0, 0))], "def t(a own): r look", "lend r = a.f", "call g(lend a, lend r)", "return",
                   "def g(p full, q look)", "return")
        self.check([], "def t(a own): r look", "lend r = a.f", "call g(lend r, lend a)", "return", "def g(q look, p look)", "return")

    def test_arguments(self):
        two = ("def g(p full, q full)", "return")
        self.check([(0, (0, 1))], "def t(a own)", "call g(lend a.f, lend a.f)", "return", *two)
        self.check([(0, (0, 1))], "def t(a own)", "call g(lend a, lend a.f)", "return", *two)
        self.check([], "def t(a own)", "call g(lend a.f, lend a.g)", "return", *two)
        self.check([], "def t(a own)", "call h(lend a, lend a)", "return", "def h(p look, q look)", "return")
        self.check([(0, (0, 1))], "def t(a own)", "call h(lend a, lend a)", "return", "def h(p look, q full)", "return")
        self.check([(1, (0, 0))], "def t(a own): r look", "lend r = a", "call h(move r, lend a)", "return", "def h(p look, q full)",
                   "return")
        self.check([(0, (0, 1))], "def t(a own)", "call h(lend a, move a)", "return", "def h(p look, q own)", "return")

    def test_arguments_that_may_hold_what_does_not_last(self):
        """An earlier argument is enough, whether or not the loan lasts."""
        self.check([(1, (0, 0)), (2, (0, 0)), (2, (1, 0))], "def t(p full): r look", "lend r = p", "lend p = p.f",
                   "call h(move r, lend p)", "return", "def h(p look, q full)", "return")

    def test_results(self):
        lines = ("def t(a own): r look", "call r = g(lend a)", "touch a full", "touch r look", "return")
        self.check([(1, (0, 1))], *lines, "def g(p look) look", "return p")
        self.check([], *lines, "def g(p look) look: s look", "skip -> 0")
        self.check([(1, (0, 1))], *lines, "def g(p look) look", "lend p = p.f", "return p")

    def test_calls_that_never_return(self):
        self.check([(1, (0, 0))], "def t(a own): r look", "lend r = a", "touch a full", "call g()", "touch r look", "return", "def g()",
                   "skip -> 0")
        told = program("def t(a own): r look", "lend r = a", "call g()", "touch a full", "touch r look", "return", "def g()",
                       "skip -> 0")
        self.assertEqual([alarms(told, "t"), is_sound(told)], [((2, (0, 0)),), True])

    def test_lines_that_are_not_reached(self):
        self.check([(2, (1, 0))], "def t(a own): r look", "return", "lend r = a", "touch a full", "touch r look -> 0")

    def test_the_step_fills_the_reference_itself(self):
        self.check([], "def t(a own): r full", "lend r = a.f", "lend r = a", "touch r full", "return")
        self.check([(1, (0, 0))], "def t(a own): r full, s full", "lend r = a.f", "lend s = a", "touch r full", "return")

    def test_returned_references(self):
        """What some return returns counts everywhere, even if the step fills it."""
        self.check([(1, (0, 0))], "def t(p full) full: r full", "lend r = p.f", "lend r = p", "return r")
        self.check([(1, (0, 0))], "def t(p full) full: r full", "lend r = p.f", "touch p full -> 2 3", "return p", "return r")
        self.check([(2, (0, 0))], "def t(p full) full: r full", "lend r = p.f", "skip", "touch p full",
                   "return p", "return r")

    def test_returns_of_loans_of_owners(self):
        self.check([(1, (0, 0))], "def t(a own) look: r look", "lend r = a", "return r")
        self.check([], "def t(p look) look: r look", "lend r = p", "return r")
        self.check([(2, (0, 0)), (2, (1, 0))], "def t(a own, b own) look: r look", "lend r = a -> 1 2", "lend r = b", "return r")
        self.check([(1, (0, 0)), (2, (0, 0))], "def t(a own) look: r look", "lend r = a -> 1 2", "drop a", "return r")
        self.check([(1, (0, 0))], "def t(a own) look: r look", "lend r = a", "new a", "return r")
        self.check([(2, (0, 0))], "def t(a own) look: r look, s look", "lend r = a", "lend s = r", "return s")
        self.check([], "def t(a own): r look", "lend r = a", "return")
        self.check([(1, (0, 1))], "def t(a own) look: r look", "call r = g(lend a)", "return r", "def g(p look) look", "return p")

    def test_by_words(self):
        counted = {"faulty": 0, "sound": 0, "none": 0}
        for seed in range(400):
            told = random_program(random.Random(seed), 3, 12)
            listed = []
            for name in told.names:
                found = alarms(told, name)
                self.assertEqual(found, Usual(told, name).alarms())
                listed += [(name, *alarm) for alarm in found]
            self.assertEqual(list(each_alarm(told)), listed)
            counted["none" if not listed else "sound" if is_sound(told) else "faulty"] += 1
        self.assertGreater(min(counted.values()), 10, counted)

    def test_each(self):
        both = LATE | CACHE | LAST
        self.assertEqual(list(each_alarm(both)), [("get", 2, (0, 0)), ("get", 3, (0, 0)), ("late", 1, (0, 0))])
        self.assertIsInstance(each_alarm(both), types.GeneratorType)
        self.assertEqual(list(each_alarm(LAST)), [])

    def test_errors(self):
        programs = wrong_for(InvalidProgram, but=(LAST,))
        for action in (may_hold, wanted, alarms):
            check_errors(self, action, (LATE, "late"), [programs, wrong_for(UnknownName, "last", "", "r")])
        check_errors(self, lambda value: next(each_alarm(value)), (LATE,), [programs])
        each_alarm(None)

    def test_what_is_returned_is_the_callers(self):
        given = may_hold(KEEP, "keep")
        given.clear()
        self.assertEqual(len(may_hold(KEEP, "keep")), 2)


class Statements(unittest.TestCase):
    def test_runs_with_a_fault_have_an_alarm(self):
        counted = 0
        for seed in range(300):
            told = random_program(random.Random(seed), 3, 10)
            for name, index, fault in Table(told).faults:
                walk = Walk(told, faulting_walk(told, name, index, fault))
                if walk.is_run and any(wrong[0] != "empty" for _, wrong in walk.faults):
                    counted += 1
                    self.assertNotEqual(alarms(told, name), ())
        self.assertGreater(counted, 60)

    def test_sound_programs_with_alarms(self):
        self.assertEqual([is_sound(CACHE), alarms(CACHE, "get") != ()], [True, True])
        self.assertEqual([is_sound(KEEP), alarms(KEEP, "keep") != ()], [True, True])
        self.assertEqual([is_sound(LAST), alarms(LAST, "last")], [True, ()])


if __name__ == "__main__":
    unittest.main()
