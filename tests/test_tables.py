"""Tables: the least one, closed ones, and which are contained in one another."""

import random
import unittest

from loanpairs.base.programs import Program
from loanpairs.core.facts import is_fact, start_state
from loanpairs.decide.tables import Table, is_closed, is_contained, is_table
from loanpairs.errors import InvalidNumber, InvalidProgram, InvalidState, InvalidTable, UnknownName
from tests.helper import CACHE, KEEP, LAST, LATE, check_errors, check_judge, check_raises, odd_values, program, wrong_for
from tests.makers import facts_of, outcomes_of, random_program
from tests.oracle import Oracle

# f never returns, g returns only by recursion, t calls both; some lines nothing reaches.
LOOPS = program(
    "def t(p full): r full, a own", "call r = g(lend p) -> 1 2", "call f() -> 3 4", "touch r look -> 2 5",
    "new a", "touch a look", "return",
    "def f()", "skip -> 0", "return",
    "def g(p full) full: q full", "skip -> 1 3", "call q = g(lend p.f)", "return q", "return p",
)


def with_point(rows, name, index, state):
    points, outcomes = rows[name]
    return {**rows, name: ((*points[:index], state, *points[index + 1:]), outcomes)}


def with_outcomes(rows, name, outcomes):
    return {**rows, name: (rows[name][0], tuple(sorted(outcomes)))}


def without_each(told, rows):
    """Tables that have a fact, an outcome or a reached line less."""
    for name in told.names:
        points, outcomes = rows[name]
        for index, state in enumerate(points):
            if state is not None:
                yield with_point(rows, name, index, None)
                for fact in state:
                    yield with_point(rows, name, index, tuple(other for other in state if other != fact))
        for outcome in outcomes:
            yield with_outcomes(rows, name, [other for other in outcomes if other != outcome])


def greatest(told):
    """The table with all facts, lines and outcomes."""
    rows = {}
    for name in told.names:
        state = tuple(sorted(facts_of(told, name)))
        rows[name] = ((state,) * len(told[name]), tuple(sorted(outcomes_of(told, name))))
    return rows


class Least(unittest.TestCase):
    def test_examples(self):
        table = Table(LATE)
        self.assertEqual(
            [table.is_sound, table.faults, table.state("late", 3) == table.state("late", 2), str(table)],
            [False, (("late", 2, ("ended", "r")),), True, "table of 13 facts, 4 lines reached, 1 faults"])
        self.assertEqual(
            [Table(LAST).outcomes_of("last"), Table(CACHE).outcomes_of("get"), Table(CACHE).is_sound,
             Table(CACHE).state("get", 1)],
            [(("from", "p", ""), ("from", "p", "next")), (("from", "m", "val"),), True,
             (("from", "m", "m", ""), ("from", "r", "m", "val"), ("held", "m"), ("held", "r"),
              ("into", "r", "m", "val"))])

    def test_keep(self):
        table = Table(KEEP)
        begin = start_state(KEEP, "keep")
        self.assertEqual(table.state("keep", 0), begin)
        self.assertEqual(table.rows["keep"][1], (("return",),))
        self.assertEqual([table.is_sound, table.faults, len(table)], [True, (), 3 + 4 + 6 + 7 + 7])

    def test_lines_that_are_not_reached(self):
        table = Table(LOOPS)
        self.assertEqual([table.is_reached("t", index) for index in range(6)], [True, True, True, False, False, True])
        self.assertEqual([table.is_reached("f", index) for index in range(2)], [True, False])
        self.assertEqual([table.state("t", 3), table.state("f", 1), table.state("f", 0)], [None, None, ()])
        self.assertEqual([table.outcomes_of(name) for name in "tfg"],
                         [(("return",),), (), (("from", "p", ""), ("from", "p", "f"))])
        self.assertEqual(str(table), f"table of {len(table)} facts, 9 lines reached, 0 faults")

    def test_functions_without_facts(self):
        told = program("def f()", "skip -> 0 1", "return")
        self.assertEqual(Table(told).rows, {"f": (((), ()), (("return",),))})
        self.assertEqual([len(Table(told)), str(Table(told))], [0, "table of 0 facts, 2 lines reached, 0 faults"])

    def test_functions_that_nothing_calls(self):
        both = LATE | KEEP
        self.assertEqual(Table(both).faults, (("late", 2, ("ended", "r")),))
        self.assertEqual(Table(both).rows, {**Table(LATE).rows, **Table(KEEP).rows})

    def test_loops_unite_states(self):
        told = program("def t(a own, b own): r look", "lend r = a", "touch r look -> 2 3", "lend r = b -> 1 3", "return")
        self.assertEqual(Table(told).state("t", 1), (
            ("held", "a"), ("held", "b"), ("held", "r"), ("into", "r", "a", ""), ("into", "r", "b", "")))
        self.assertIs(Table(told).is_sound, True)

    def test_several_faults(self):
        told = program("def t(a own): r look, b own", "lend r = a -> 1 2", "drop a", "put a.f = b -> 3 4",
                       "call g(lend r, lend a, lend a)", "return", "def g(x look, y full, z full)", "return")
        wanted = [("t", 2, ("empty", "b")), ("t", 2, ("empty", "a")), ("t", 3, ("ended", "r")), ("t", 3, ("empty", "a")),
                  ("t", 3, ("argument", 0)), ("t", 3, ("argument", 1))]
        self.assertEqual(Table(told).faults, tuple(sorted(wanted)))

    def test_by_the_states_of_walks(self):
        counted = 0
        for seed in range(150):
            rng = random.Random(seed)
            told = random_program(rng, rng.randint(1, 4), rng.randint(3, 12))
            oracle, table = Oracle(told), Table(told)
            self.assertTrue(oracle.is_whole)
            self.assertEqual(table.rows, oracle.rows())
            self.assertEqual(table.faults, tuple(sorted(oracle.faults)))
            self.assertIs(table.is_sound, oracle.faults == {})
            counted += table.is_sound
        self.assertTrue(20 < counted < 130)


class Asked(unittest.TestCase):
    table = Table(LOOPS)

    def test_rows_belong_to_the_caller(self):
        rows = self.table.rows
        self.assertEqual(list(rows), ["f", "g", "t"])
        rows["f"] = rows.pop("g")
        rows["z"] = None
        self.assertEqual(list(self.table.rows), ["f", "g", "t"])
        self.assertEqual(self.table.rows, Table(LOOPS).rows)

    def test_items(self):
        for name in LOOPS.names:
            self.assertEqual(self.table[name], self.table.rows[name])
        self.assertEqual(self.table.program, LOOPS)
        for value in [*odd_values(), "z", "", "p", LOOPS["t"]]:
            for action in (self.table.__getitem__, self.table.outcomes_of):
                self.assertIs(check_raises(self, UnknownName, action, value).wanted, value)

    def test_states_and_lines(self):
        names = wrong_for(UnknownName, "z", "", "p", LOOPS["t"])
        numbers = wrong_for(InvalidNumber, 6, "0", ())
        for action in (self.table.state, self.table.is_reached):
            check_errors(self, action, ("t", 0), [names, numbers])
        for index, state in enumerate(self.table["t"][0]):
            self.assertEqual(self.table.state("t", index), state)
            self.assertIs(self.table.is_reached("t", index), state is not None)

    def test_has(self):
        for name in LOOPS.names:
            for index in range(len(LOOPS[name])):
                for fact in facts_of(LOOPS, name):
                    state = self.table.state(name, index)
                    self.assertIs(self.table.has(name, index, fact), state is not None and fact in state)
        names = wrong_for(UnknownName, "z", "", "p")
        facts = wrong_for(InvalidState, (), ("held", "z"), ["held", "a"], ("ended", "a"), ("into", "a", "r", ""))
        for index in (0, 3):
            check_errors(self, self.table.has, ("t", index, ("held", "a")),
                         [names, wrong_for(InvalidNumber, 6), facts])

    def test_each(self):
        wanted = sorted((name, index, fact) for name in LOOPS.names for index, state in enumerate(self.table[name][0])
                        for fact in state or ())
        self.assertEqual(list(self.table.each()), wanted)
        self.assertEqual(list(self.table.each()), wanted)
        self.assertEqual([len(wanted), next(self.table.each())], [len(self.table), wanted[0]])
        self.assertEqual(iter(self.table.each()).__class__.__name__, "generator")

    def test_no_iteration(self):
        with self.assertRaises(TypeError):
            list(self.table)

    def test_equality(self):
        self.assertEqual(self.table, Table(Program.from_lines(*LOOPS.text)))
        self.assertNotEqual(Table(LAST), Table(CACHE))
        for value in [*odd_values(), self.table.rows, LOOPS]:
            self.assertIs(self.table == value, False)
            self.assertIs(self.table != value, True)

    def test_errors(self):
        for value in odd_values():
            if not isinstance(value, Program):
                check_raises(self, InvalidProgram, Table, value)


class Judged(unittest.TestCase):
    def test_tables(self):
        for told in (LAST, CACHE, LATE, KEEP, LOOPS, LAST | CACHE):
            rows = Table(told).rows
            for value in (rows, greatest(told), dict(reversed(rows.items())), *without_each(told, rows)):
                check_judge(self, lambda value: is_table(told, value), value, True)

    def test_no_tables(self):
        rows = Table(LOOPS).rows
        points, outcomes = rows["g"]
        for row in ((points,), (points, outcomes, ()), [points, outcomes], (list(points), outcomes),
                    (points, list(outcomes)), (points[1:], outcomes), ((*points, ()), outcomes), ((), ()),
                    (points, tuple(reversed(outcomes))), (points, (outcomes[0], outcomes[0])),
                    (points, (("return",),)), (points, (("from", "q", ""),)), (points, (("from", "p", "h"),)),
                    (points, (None,)), (points, None), (None, outcomes), ((False, *points[1:]), outcomes),
                    (((("held", "z"),), *points[1:]), outcomes), (([], *points[1:]), outcomes),
                    (((("held", "q"), ("held", "p")), *points[1:]), outcomes), None, (), {}):
            check_judge(self, lambda value: is_table(LOOPS, value), {**rows, "g": row}, False)
            check_judge(self, lambda value: is_closed(LOOPS, value), {**rows, "g": row}, False)
        more = [{}, {**rows, "z": rows["f"]}, {name: rows[name] for name in "fg"}, {**rows, None: rows["f"]},
                {1: rows["f"], "g": rows["g"], "t": rows["t"]}, list(rows.items()), tuple(rows.items())]
        for value in [*more, *odd_values()]:
            check_judge(self, lambda value: is_table(LOOPS, value), value, False)
            check_judge(self, lambda value: is_closed(LOOPS, value), value, False)
        for value in odd_values():
            if value is not None:
                check_judge(self, lambda value: is_table(LOOPS, value), {**rows, "f": value}, False)
                check_judge(self, lambda value: is_table(LOOPS, value), {**rows, "f": ((value, ()), ())}, False)
                check_judge(self, lambda value: is_table(LOOPS, value), {**rows, "f": (((), ()), (value,))}, False)

    def test_closed(self):
        for told in (LAST, CACHE, LATE, KEEP, LOOPS):
            rows = Table(told).rows
            for value in (rows, greatest(told), dict(reversed(rows.items()))):
                check_judge(self, lambda value: is_closed(told, value), value, True)
            for value in without_each(told, rows):
                check_judge(self, lambda value: is_closed(told, value), value, False)

    def test_a_line_that_nothing_reaches_can_be_there(self):
        rows = Table(LOOPS).rows
        value = with_point(rows, "f", 1, ())
        self.assertIs(is_closed(LOOPS, value), False)
        self.assertIs(is_closed(LOOPS, with_outcomes(value, "f", [("return",)])), False)
        state = rows["t"][0][1]
        value = with_point(with_outcomes(value, "f", [("return",)]), "t", 3, state)
        self.assertIs(is_closed(LOOPS, value), False)
        state = tuple(sorted({*state, ("held", "a")}))
        value = with_point(value, "t", 4, state)
        value = with_point(value, "t", 5, tuple(sorted({*state, *rows["t"][0][5]})))
        self.assertIs(is_closed(LOOPS, value), True)

    def test_outcomes_that_the_table_has(self):
        """An outcome that a table has in vain asks for what is behind its calls."""
        rows = with_outcomes(Table(CALLER).rows, "g", [("from", "p", "f"), ("from", "p", "g")])
        self.assertIs(is_table(CALLER, rows), True)
        self.assertIs(is_closed(CALLER, rows), False)
        state = rows["t"][0][1]
        more = tuple(sorted({*state, ("into", "r", "a", "g")}))
        self.assertIs(is_closed(CALLER, with_point(rows, "t", 1, more)), True)

    def test_greater_ones_by_chance(self):
        for seed in range(40):
            rng = random.Random(seed)
            told = random_program(rng, 2, 6)
            least = Table(told).rows
            self.assertIs(is_closed(told, least), True)
            for value in without_each(told, least):
                self.assertIs(is_closed(told, value), False)
                self.assertIs(is_contained(told, value, least), True)
                self.assertIs(is_contained(told, least, value), False)
            self.assertIs(is_closed(told, greatest(told)), True)
            self.assertIs(is_contained(told, least, greatest(told)), True)
            self.assertIs(is_contained(told, greatest(told), least), least == greatest(told))

    def test_errors(self):
        programs = [pair for pair in wrong_for(InvalidProgram) if not isinstance(pair[0], Program)]
        rows = Table(LATE).rows
        for judge in (is_table, is_closed):
            check_errors(self, judge, (LATE, rows), [programs])
            check_errors(self, judge, (LATE, None), [programs])


CALLER = program(
    "def t(a own): r full", "call r = g(lend a)", "return", "def g(p full) full", "lend p = p.f", "return p",
)


class Contained(unittest.TestCase):
    def test_states_lines_and_outcomes(self):
        rows = Table(CALLER).rows
        greater = with_outcomes(rows, "g", [*rows["g"][1], ("from", "p", "")])
        line = with_point(rows, "t", 1, None)
        other = with_point(with_point(rows, "t", 1, ()), "g", 0, None)
        for one, more, wanted in ((rows, rows, True), (rows, greater, True), (greater, rows, False),
                                  (line, rows, True), (rows, line, False), (line, other, False), (other, line, False),
                                  (other, rows, True), (rows, other, False)):
            self.assertIs(is_contained(CALLER, one, more), wanted)

    def test_an_empty_state_is_more_than_none(self):
        told = program("def f()", "return", "return")
        one, other = {"f": (((), None), ())}, {"f": (((), ()), ())}
        self.assertIs(is_contained(told, one, other), True)
        self.assertIs(is_contained(told, other, one), False)

    def test_errors(self):
        programs = [pair for pair in wrong_for(InvalidProgram) if not isinstance(pair[0], Program)]
        rows = Table(CALLER).rows
        tables = wrong_for(InvalidTable, {**rows, "g": rows["t"]}, list(rows.items()))
        check_errors(self, is_contained, (CALLER, rows, rows), [programs, tables, tables])
        self.assertIs(is_fact(CALLER, "t", ("held", "a")), True)


if __name__ == "__main__":
    unittest.main()
