"""The main statements about programs, shown by programs."""

import random
import unittest

from loanpairs.base.functions import Function
from loanpairs.base.programs import Program, inlined, renamed
from loanpairs.core.walks import Walk
from loanpairs.decide.papers import certificate, faulting_walk, is_sound
from loanpairs.decide.shortest import Fewest
from loanpairs.decide.tables import Table
from loanpairs.errors import InvalidFunction, InvalidOperation, InvalidProgram, NotReached
from loanpairs.use.alarms import alarms
from loanpairs.use.contracts import Contract, parting
from tests.helper import CACHE, KEEP, LAST, LATE, check_raises, program
from tests.makers import facts_of, outcomes_of, random_function, random_program
from tests.oracle import by_outcomes


def programs(many, functions=3, longest=10):
    for seed in range(many):
        rng = random.Random(seed)
        yield random_program(rng, rng.randint(1, functions), rng.randint(3, longest))


def has(fields, outcomes, wanted):
    """Whether an outcome is had by some outcomes."""
    if wanted in outcomes:
        return True
    if wanted[0] != "from":
        return False
    parts = {part for word, name, part in (outcome for outcome in outcomes if outcome[0] == "from")
             if name == wanted[1]}
    if wanted[2] == "" and parts >= set(fields):
        return True
    return len(fields) == 1 and parts & {"", *fields} != set()


class Certain(unittest.TestCase):
    """What is true of all programs."""

    def test_a_table_or_a_run(self):
        for told in programs(60):
            word, _ = certificate(told)
            self.assertEqual(word == "table", Table(told).faults == ())

    def test_each_fault_of_the_table_has_a_walk_and_walks_have_no_others(self):
        for told in programs(40):
            faults = Table(told).faults
            for name in told.names:
                for index in range(len(told[name])):
                    candidates = [(word, x) for word in ("empty", "ended", "result") for x in told[name].names]
                    for fault in candidates + [("argument", at) for at in range(3)]:
                        if (name, index, fault) in faults:
                            walk = Walk(told, faulting_walk(told, name, index, fault))
                            self.assertIn((len(walk) - 1, fault), walk.faults)
                        else:
                            check_raises(self, NotReached, faulting_walk, told, name, index, fault)

    def test_functions_by_the_outcomes_of_others(self):
        for told in programs(60):
            table = Table(told)
            outcomes = {name: table.outcomes_of(name) for name in told.names}
            faults = []
            for name in told.names:
                wrong, found = by_outcomes(told, name, outcomes)
                faults += [(name, index, fault) for index, fault in wrong]
                self.assertEqual(found, set(outcomes[name]))
            self.assertEqual(table.faults, tuple(sorted(faults)))

    def test_touches_that_are_taken_out(self):
        many = 0
        for told in programs(80):
            for function in told.functions if is_sound(told) else ():
                for index, (step, nexts) in enumerate(function.lines):
                    if step[0] == "touch":
                        many += 1
                        fewer = told.with_function(function.with_line(index, ("skip",), *nexts))
                        self.assertIs(is_sound(fewer), True)
        self.assertGreater(many, 20)

    def test_variables_that_are_declared_look(self):
        many = 0
        for told in programs(150, 2):
            for function in told.functions if is_sound(told) else ():
                for name, kind in function.variables:
                    if kind == "full":
                        many += self.check_lowered(told, function, name)
        self.assertGreater(many, 5)

    def check_lowered(self, told, function, name):
        variables = tuple((other, "look" if other == name else kind) for other, kind in function.variables)
        try:
            lowered = Function(function.called, function.parameters, function.result, variables, function.lines)
            fewer = Program(told.fields, tuple(lowered if other == function else other for other in told.functions))
        except (InvalidFunction, InvalidProgram):
            return 0
        self.assertIs(is_sound(fewer), True)
        return 1

    def test_calls_that_are_replaced(self):
        many = 0
        for told in programs(400, 3, 8):
            calls = [(name, index) for name in told.names for index, (step, _) in enumerate(told[name].lines)
                     if step[0] == "call"]
            for name, index in calls if is_sound(told) else ():
                many += self.check_inlined(told, name, index)
        self.assertGreater(many, 50)

    def check_inlined(self, told, name, index):
        try:
            made = inlined(told, name, index)
        except InvalidOperation:
            return 0
        news = made[name].names[len(told[name].names):]
        before, behind = Table(told), Table(made)
        self.assertIs(behind.is_sound, True)
        for line in range(len(told[name])):
            state = behind.state(name, line)
            if state is not None:
                state = tuple(fact for fact in state if not any(item in news for item in fact[1:3]))
            self.assertEqual(state, before.state(name, line))
        for other in told.names:
            self.assertEqual(behind.outcomes_of(other), before.outcomes_of(other))
        return 1

    def test_other_names(self):
        for told in programs(40):
            fields = {"f": "g", "g": "left"}
            functions = dict(zip(told.names, ["zz", "a", "m"]))
            made = renamed(told, fields=fields, functions=functions)
            table, other = Table(told), Table(made)
            self.assertIs(table.is_sound, other.is_sound)
            for name in told.names:
                points = tuple(state if state is None else tuple(sorted(self.with_part(fact, fields) for fact in state))
                               for state in table[name][0])
                self.assertEqual(points, other[functions[name]][0])
                found = sorted(self.with_part(outcome, fields) for outcome in table.outcomes_of(name))
                self.assertEqual(tuple(found), other.outcomes_of(functions[name]))

    def with_part(self, told, fields):
        return told if len(told) < 3 else (*told[:-1], fields.get(told[-1], ""))

    def test_functions_that_never_return(self):
        many = 0
        for told in programs(60):
            if is_sound(told):
                for function in told.functions:
                    never = Function(function.called, function.parameters, function.result, (), ((("skip",), (0,)),))
                    self.assertIs(is_sound(told.with_function(never)), True)
                    many += 1
        self.assertGreater(many, 20)


class Replacing(unittest.TestCase):
    """When a sound function can replace another one."""

    heads = ("def g(p full, q look) look: r look", "def g(p full) full", "def g(a own) own", "def g(p look, q look)")

    def functions(self, fields):
        """Functions that have just some of their possible outcomes."""
        parts = ["", *fields]
        for many in range(2 ** (2 * len(parts))):
            chosen = [(name, part) for at, (name, part) in enumerate((x, y) for x in "pq" for y in parts)
                      if many >> at & 1]
            lines = []
            for at, (name, part) in enumerate(chosen):
                place = name if part == "" else f"{name}.{part}"
                nexts = [2 * at + 1] + ([2 * at + 2] if at + 1 < len(chosen) else [])
                told = f" -> {' '.join(map(str, nexts))}" if len(nexts) == 2 else ""
                lines += [f"lend r = {place}{told}", "return r"]
            lines = lines or ["skip -> 0"]
            yield Function.from_lines(self.heads[0], *lines)

    def check(self, fields):
        caller = Function.from_lines(
            "def main(a own, b own): x look, y look, c own", "call x = g(lend a, lend b) -> 1 2 6",
            f"touch a.{fields[0]} full -> 4", f"touch a.{fields[-1]} full -> 4", "touch b full", "touch x look -> 8",
            "skip -> 8", f"touch b.{fields[0]} full -> 4", "skip", "return")
        made = []
        for function in self.functions(fields):
            told = Program(fields, (function, caller))
            alone = Program(fields, (function,))
            made.append((Table(alone).outcomes_of("g"), Table(told).is_sound))
        for outcomes, sound in made:
            for other, other_sound in made:
                if sound and all(has(fields, outcomes, outcome) for outcome in other):
                    self.assertIs(other_sound, True)
        return made

    def test_what_is_had(self):
        self.check(("f",))
        self.check(("f", "g"))

    def test_the_whole_and_all_fields(self):
        """A function with all fields has the whole, too: it can be replaced by one with the whole."""
        caller = ("def main(a own): x look", "call x = g(lend a)", "touch a.f full -> 2 3", "touch a.g full",
                  "return")
        for use, wanted in (("touch x look", False), ("skip", True)):
            whole = program(*caller[:-1], use, "return", "def g(p look) look", "return p")
            fields = program(*caller[:-1], use, "return", "def g(p look) look: r look", "lend r = p.f -> 1 2",
                             "lend r = p.g", "return r")
            self.assertIs(is_sound(whole), wanted)
            self.assertIs(is_sound(fields), wanted)

    def test_one_field(self):
        lines = ("def main(a own): x look", "call x = g(lend a)", "touch a.f full", "touch x look", "return")
        for returned in ("p", "p.f"):
            told = program(*lines, "def g(p look) look", f"lend p = {returned}", "return p", fields="f")
            self.assertIs(is_sound(told), False)
        told = program(*lines, "def g(p look) look", "lend p = p.g", "return p", fields="f g")
        self.assertIs(is_sound(told), True)

    def test_a_function_with_more(self):
        more = ("def main(a own): x full", "call x = last(lend a)", "touch a.val full", "touch x look", "return")
        both = LAST.with_function(Function.from_lines(*more))
        self.assertEqual(Table(both).faults, (("main", 2, ("ended", "x")),))
        near = both.with_function(LAST["last"].with_line(0, ("lend", "p", "p", "next"), 1, 2))
        self.assertEqual(Table(near).outcomes_of("last"), (("from", "p", "next"),))
        self.assertIs(is_sound(near), True)


    def pairs(self, many):
        """Sound functions g by chance and others with their kinds, all without calls."""
        found = {}
        for seed in range(many):
            rng = random.Random(seed)
            kinds = rng.choice([(("full", "look"), "look"), (("full", "own"), "full"), (("own",), "own"), (("look",), "")])
            variables = (("x", kinds[1] or "own"), ("y", "own"))
            head = ("g", tuple(zip("abc", kinds[0])), kinds[1], variables)
            function = random_function(rng, head, [head], ("f", "g"), 8)
            if function.calls == () and is_sound(Program(("f", "g"), (function,))):
                found.setdefault(kinds, []).append(function)
        for functions in found.values():
            yield from ((one, other) for one in functions for other in functions)

    def test_in_every_sound_program(self):
        """A function that is within another one can replace it; one that is not makes a sound program unsound."""
        counted = [0, 0]
        callers = [told for told in programs(60, 2, 8) if is_sound(told)]
        for one, other in random.Random(11).sample(list(self.pairs(150)), 250):
            first, second = (Contract.of(Program(("f", "g"), (x,)), "g") for x in (one, other))
            within = all(has(("f", "g"), second.outcomes, x) for x in first.outcomes)
            self.assertIs(first.fits(second), within)
            if within:
                counted[0] += self.check_callers(callers, one, other)
            else:
                main = parting(first, second)
                self.assertIs(is_sound(Program(("f", "g"), (main, other))), True)
                self.assertIs(is_sound(Program(("f", "g"), (main, one))), False)
                counted[1] += 1
        self.assertGreater(min(counted), 20, counted)

    def check_callers(self, callers, one, other):
        """Each sound program with a function in the place of which the other one can stand."""
        counted = 0
        for told in callers:
            for function in told.functions:
                kinds = [tuple(kind for _, kind in x.parameters) for x in (function, other)]
                if kinds[0] != kinds[1] or function.result != other.result:
                    continue
                before = told.with_function(with_name(other, function.called))
                if is_sound(before):
                    counted += 1
                    self.assertIs(is_sound(told.with_function(with_name(one, function.called))), True)
        return counted


def with_name(function, called):
    return Function(called, function.parameters, function.result, function.variables, function.lines)


class Untrue(unittest.TestCase):
    """What is not true of all programs."""

    def test_a_reference_ends_with_the_one_that_it_was_lent_from(self):
        state = Table(KEEP).state("keep", 3)
        self.assertIn(("ended", "b"), state)
        self.assertIn(("into", "c", "b", ""), state)
        self.assertNotIn(("ended", "c"), state)

    def test_the_same_outcomes_mean_the_same_facts(self):
        one = program("def f(p full) full", "return p")
        self.assertEqual(Table(one).outcomes_of("f"), (("from", "p", ""),))
        other = program("def f(p full) full: a own", "new a", "return p")
        self.assertEqual(Table(other).outcomes_of("f"), (("from", "p", ""),))
        self.assertNotEqual(Table(other).state("f", 1), Table(one).state("f", 0))

    def test_what_can_replace_one_another_has_the_same_outcomes(self):
        all_parts = {("from", "p", part) for part in ("", "f", "g")}
        fields = {("from", "p", "f"), ("from", "p", "g")}
        self.assertTrue(all(has(("f", "g"), fields, outcome) for outcome in all_parts))
        self.assertTrue(all(has(("f", "g"), all_parts, outcome) for outcome in fields))
        one = program("def f(p full) full", "skip -> 1 3 4", "lend p = p.f", "return p", "lend p = p.g -> 2", "return p")
        other = program("def f(p full) full", "skip -> 1 3", "lend p = p.f", "return p", "lend p = p.g -> 2")
        self.assertEqual([Table(told).outcomes_of("f") for told in (one, other)], [
            tuple(sorted(all_parts)), tuple(sorted(fields))])
        self.assertEqual(Contract.of(one, "f"), Contract.of(other, "f"))

    def test_a_function_that_is_never_called_needs_no_check(self):
        self.assertEqual([is_sound(KEEP), is_sound(KEEP | LATE)], [True, False])

    def test_one_outcome_for_all_calls(self):
        lines = ("def main(a own, b own): x look, y look", "call x = g(lend a, lend b)", "call y = g(lend b, lend x)",
                 "touch a full", "touch y look", "return")
        both = ("def g(p look, q look) look", "skip -> 1 2", "return p", "return q")
        self.assertEqual(Table(program(*lines, *both)).faults, (("main", 3, ("ended", "y")),))
        for name in "pq":
            self.assertIs(is_sound(program(*lines, "def g(p look, q look) look", f"return {name}")), True)

    def test_usual_checks(self):
        """A usual check refuses a sound program, too: in each of these a reference has ended, but is not used any more."""
        for told in (CACHE, KEEP):
            self.assertEqual([is_sound(told), alarms(told, told.names[0]) == ()], [True, False])

    def test_a_shortest_run_with_a_fault_comes_to_no_line_twice(self):
        told = program("def f(a own)", "touch a look", "drop a -> 0 2", "return")
        self.assertEqual(Table(told).faults, (("f", 0, ("empty", "a")),))
        self.assertEqual(Fewest(told).faulty_run(), (("f", ((0, None), (1, None), (0, None))),))


class Helpers(unittest.TestCase):
    def test_facts_and_outcomes(self):
        self.assertEqual(len(facts_of(LAST, "last")), 3 + 3)
        self.assertEqual(outcomes_of(LAST, "last"), [("from", "p", ""), ("from", "p", "next"), ("from", "p", "val")])


if __name__ == "__main__":
    unittest.main()
