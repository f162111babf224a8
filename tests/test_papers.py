"""Certificates, sound functions, and walks with a fault."""

import random
import unittest

from loanpairs.base.programs import Program
from loanpairs.core.walks import Walk, is_walk
from loanpairs.decide.papers import certificate, faulting_walk, is_certificate, is_sound, sound_functions
from loanpairs.decide.tables import Table, is_closed
from loanpairs.errors import InvalidNumber, InvalidProgram, NotReached, UnknownName
from tests.helper import CACHE, KEEP, LAST, LATE, check_errors, check_judge, check_raises, odd_values, program, wrong_for
from tests.makers import random_program
from tests.oracle import Oracle
from tests.test_tables import LOOPS, greatest, with_point, without_each

# main calls use and idle; use calls late, which has a fault; idle calls itself.
LINKED = program(
    "def main(a own)", "call use(lend a)", "call idle()", "return",
    "def use(p full)", "call late(lend p.f)", "return",
    "def late(p full): r look", "lend r = p -> 1 3", "touch p full", "touch r look", "return",
    "def idle()", "skip -> 1 2", "call idle()", "return",
    "def ring()", "call rang() -> 0 1", "return", "def rang()", "call ring()", "return",
)


def outline(told, lines):
    """Pairs ahead of the last one: for each function and each outcome at most one."""
    return [(Walk(told, lines[:at + 1]).name, Walk(told, lines[:at + 1]).outcome) for at in range(len(lines) - 1)]


class Certificates(unittest.TestCase):
    def test_examples(self):
        self.assertEqual(
            [certificate(KEEP)[0], certificate(LATE)[0], is_sound(CACHE), sound_functions(LAST | CACHE)],
            ["table", "run", True, ("get", "last")])
        self.assertEqual(
            [is_certificate(LATE, ("run", (("late", ((0, None), (1, None), (2, None))),))),
             is_certificate(KEEP, ("table", {}))],
            [True, False])

    def test_by_chance(self):
        sound = 0
        for seed in range(150):
            rng = random.Random(seed)
            told = random_program(rng, rng.randint(1, 4), rng.randint(3, 12))
            oracle, made = Oracle(told), certificate(told)
            self.assertIs(is_certificate(told, made), True)
            self.assertIs(is_sound(told), oracle.faults == {})
            self.assertEqual(made[0], "run" if oracle.faults else "table")
            sound += is_sound(told)
            if made[0] == "table":
                self.assertTrue(is_closed(told, made[1]))
            else:
                walk = Walk(told, made[1])
                self.assertTrue(walk.is_run and walk.faults)
                found = outline(told, made[1])
                self.assertEqual(len(set(found)), len(found))
                self.assertNotIn(None, [outcome for _, outcome in found])
        self.assertTrue(20 < sound < 130)

    def test_just_one_of_both_exists(self):
        """No table without a fault for an unsound program, and no run with one for a sound one."""
        for told in (LATE, LINKED):
            for value in (Table(told).rows, greatest(told), *without_each(told, Table(told).rows)):
                check_judge(self, lambda value: is_certificate(told, ("table", value)), value, False)
        for told in (LAST, CACHE, KEEP):
            for lines in (((told.names[0], ()),), ((told.names[0], ((0, None),)),)):
                check_judge(self, lambda value: is_certificate(told, ("run", value)), lines, False)

    def test_tables(self):
        for told in (LAST, CACHE, KEEP, LOOPS):
            rows = Table(told).rows
            self.assertIs(is_certificate(told, ("table", rows)), True)
            self.assertIs(is_certificate(told, ("table", dict(reversed(rows.items())))), True)
            self.assertIs(is_certificate(told, ("table", greatest(told))), False)
            for value in without_each(told, rows):
                self.assertIs(is_certificate(told, ("table", value)), False)
        # A greater one is as good if it has no fault.
        state = tuple(sorted({*Table(KEEP).state("keep", 4), ("ended", "c"), ("empty", "b")}))
        rows = with_point(Table(KEEP).rows, "keep", 4, state)
        self.assertIs(is_certificate(KEEP, ("table", rows)), True)
        state = tuple(sorted({*Table(KEEP).state("keep", 3), ("ended", "c")}))
        self.assertIs(is_certificate(KEEP, ("table", with_point(rows, "keep", 3, state))), False)

    def test_runs(self):
        late = ((0, None), (1, None), (2, None))
        good = ("late", late)
        longer = ("late", (*late, (3, None)))
        for lines, wanted in (((good,), True), ((longer,), False), ((("late", late[:2]),), False), ((("late", ()),), False),
                              ((longer, good), True), ((good, good), True), ((good, longer), False), ((), False),
                              ([good], False), (good, False)):
            check_judge(self, lambda value: is_certificate(LATE, value), ("run", lines), wanted)
        begin = ((0, None), (1, None))
        clean = ("late", ((0, None), (3, None)))
        # The fault has to be in the last step of the run itself, not in a called walk.
        use = ("use", ((0, 0), (1, None)))
        for lines, wanted in (
            ((("late", (*begin, (2, None))),), True),
            ((("late", (*begin, (2, None), (3, None))), use), False),
            ((("late", (*begin, (2, None), (3, None))), ("use", ((0, 0),))), False),
            ((clean, use), False),
        ):
            check_judge(self, lambda value: is_certificate(LINKED, value), ("run", lines), wanted)

    def test_a_last_call_with_a_fault(self):
        told = program("def t(a own)", "call g(lend a, lend a)", "return", "def g(p full, q full): b own",
                       "touch b look -> 1 2", "return", "return")
        self.assertIs(is_certificate(told, ("run", (("t", ((0, None),)),))), True)
        self.assertIs(is_certificate(told, ("run", (("g", ((0, None),)),))), True)
        inner = ("g", ((0, None), (1, None)))
        self.assertIs(is_walk(told, (inner, ("t", ((0, 0),)))), True)
        self.assertIs(is_certificate(told, ("run", (inner, ("t", ((0, 0),))))), False)

    def test_other_values(self):
        rows = Table(KEEP).rows
        run = (("late", ((0, None), (1, None), (2, None))),)
        for told in (LATE, KEEP):
            for value in [*odd_values(), ("table", rows, ()), ["table", rows], ("run", rows), ("table", run), ("", rows),
                          ("walk", run), (rows, "table"), ("run",), ("table",), (None, rows), (True, run), rows, run,
                          ("table", list(rows.items())), ("table", None), ("run", None), ["run", run], ("Run", run)]:
                check_judge(self, lambda value: is_certificate(told, value), value, False)
            for value in odd_values():
                for word in ("table", "run"):
                    check_judge(self, lambda value: is_certificate(told, value), (word, value), False)

    def test_what_is_returned_is_the_callers(self):
        one = certificate(KEEP)
        one[1].clear()
        self.assertEqual(certificate(KEEP), ("table", Table(KEEP).rows))
        self.assertEqual(list(certificate(LAST | CACHE)[1]), ["get", "last"])
        self.assertEqual(certificate(LATE), certificate(LATE))

    def test_errors(self):
        for action in (certificate, is_sound, sound_functions):
            for value in odd_values():
                if not isinstance(value, Program):
                    check_raises(self, InvalidProgram, action, value)
        programs = [pair for pair in wrong_for(InvalidProgram) if not isinstance(pair[0], Program)]
        check_errors(self, is_certificate, (KEEP, None), [programs])
        check_errors(self, is_certificate, (KEEP, certificate(KEEP)), [programs])


class Functions(unittest.TestCase):
    def test_sound_functions(self):
        self.assertEqual(sound_functions(LINKED), ("idle", "rang", "ring"))
        self.assertEqual(sound_functions(LATE), ())
        self.assertEqual(sound_functions(LATE | KEEP), ("keep",))
        self.assertEqual(sound_functions(LATE | LAST | CACHE), ("get", "last"))
        mended = LINKED.with_function(LINKED["late"].with_line(1, ("skip",), 2))
        self.assertEqual(sound_functions(mended), LINKED.names)

    def test_functions_that_are_never_called_are_asked(self):
        self.assertIs(is_sound(KEEP | LATE), False)
        self.assertIs(is_sound(KEEP | LAST), True)

    def test_a_caller_with_a_fault(self):
        told = program("def main(): a own", "touch a look", "call idle()", "return", "def idle()", "return")
        self.assertEqual(sound_functions(told), ("idle",))


class Walks(unittest.TestCase):
    def test_each_fault_of_the_least_table(self):
        faults = 0
        for seed in range(150):
            rng = random.Random(seed)
            told = random_program(rng, rng.randint(1, 4), rng.randint(3, 12))
            for name, index, fault in Table(told).faults:
                lines = faulting_walk(told, name, index, fault)
                walk = Walk(told, lines)
                self.assertEqual([walk.name, walk.way[-1][0]], [name, index])
                self.assertIn((len(walk) - 1, fault), walk.faults)
                found = outline(told, lines)
                self.assertEqual(len(set(found)), len(found))
                faults += 1
        self.assertGreater(faults, 60)

    def test_walks_that_are_no_runs(self):
        told = program("def t(): a own, b own", "touch a look", "touch b look", "return")
        lines = faulting_walk(told, "t", 1, ("empty", "b"))
        self.assertEqual(lines, (("t", ((0, None), (1, None))),))
        self.assertIs(Walk(told, lines).is_run, False)

    def test_faults_of_arguments(self):
        told = program("def t(a own)", "call g(lend a, move a)", "return", "def g(p look, q own)", "return")
        self.assertEqual(faulting_walk(told, "t", 0, ("argument", 0)), (("t", ((0, None),)),))
        for fault in (("argument", 1), ("argument", False), ("argument", "0"), ("argument", "a"), ["argument", 0], ("argument",), ("argument", 0, 0)):
            self.assertIs(check_raises(self, NotReached, faulting_walk, told, "t", 0, fault).point, 0)

    def test_none(self):
        for fault in [*odd_values(), ("ended", "z"), ("ended", "a"), ("empty", "r"), ("held", "r"), ("result", "r"),
                      ["ended", "r"], ("ended", ["r"]), ("ended",), (["ended"], "r"), None, ()]:
            for index in (1, 2):
                self.assertEqual(check_raises(self, NotReached, faulting_walk, LATE, "late", index, fault).point, index)
        check_raises(self, NotReached, faulting_walk, LATE, "late", 3, ("ended", "r"))
        check_raises(self, NotReached, faulting_walk, LOOPS, "f", 1, ("empty", "a"))

    def test_errors(self):
        programs = [pair for pair in wrong_for(InvalidProgram) if not isinstance(pair[0], Program)]
        names = wrong_for(UnknownName, "r", "", "get", LATE["late"])
        numbers = wrong_for(InvalidNumber, 4, "2", -2)
        check_errors(self, faulting_walk, (LATE, "late", 2, ("ended", "r")), [programs, names, numbers])
        for value in (("ended", "a"), None, ()):
            for bad, error in programs[::9]:
                check_raises(self, error, faulting_walk, bad, "late", 2, value)
            for bad, error in names[::9]:
                check_raises(self, error, faulting_walk, LATE, bad, 2, value)
            for bad, error in numbers[::9]:
                check_raises(self, error, faulting_walk, LATE, "late", bad, value)


if __name__ == "__main__":
    unittest.main()
