"""The fewest steps, walks with just so many, and length papers."""

import random
import time
import unittest

from loanpairs.base.functions import Function
from loanpairs.base.programs import Program
from loanpairs.core.walks import Walk
from loanpairs.decide.shortest import Fewest, is_length_paper
from loanpairs.decide.tables import Table
from loanpairs.errors import (
    InvalidNumber, InvalidOperation, InvalidProgram, InvalidState, NotReached, UnknownName,
)
from tests.helper import CACHE, KEEP, LAST, LATE, check_errors, check_judge, check_raises, odd_values, program, wrong_for
from tests.makers import facts_of, outcomes_of, random_program
from tests.oracle import Oracle
from tests.test_papers import LINKED, outline
from tests.test_tables import LOOPS


def tower(floors, calls):
    """Functions that each call the one below so many times; the lowest one has one step."""
    functions = [Function.from_lines("def a()", "return")]
    for at in range(1, floors):
        below = "abcdefghijkl"[at - 1]
        functions.append(Function.from_lines(f"def {'abcdefghijkl'[at]}()", *[f"call {below}()"] * calls, "return"))
    return Program(("f",), tuple(functions))


def chain():
    """Functions whose outcomes need one another, so that the last one needs more than 10 ** 65 steps.

    What is passed beside a reference leads into a local tree, so that only one outcome will do for each call
    on its way. In b to k the outcome from p needs four rounds of calls with any outcome of the function ahead,
    those from q and s need fifteen walks that have such an outcome, too: one from a field if the reference is
    lent from a field at the beginning, and one from the whole otherwise. In a and l each of these chains goes
    on where the one ahead of it ends: p, q.f, s.f, q, s.
    """
    told = [
        "def a(p look, q look, s look) look: o own, u look", "new o -> 1 2 6", "return p",
        "call u = k(lend o, lend o, lend o) -> 3 4", "lend q = q.f -> 5", "call u = l(lend o)", "return q",
        "skip -> 7 8", "lend s = s.f", "call s = k(lend o, lend s, lend o)", "return s",
        "def l(p look) look: o own", "new o", "call p = k(lend o, lend o, lend p)", "return p",
    ]
    for ahead, called in zip("abcdefghij", "bcdefghijk"):
        told += [
            f"def {called}(p look, q look, s look) look: o own, u look, v look, w look, x look",
            "new o -> 1 2 3", "lend q = q.f -> 3", "lend s = s.f",
            *[f"call q = {ahead}(lend o, lend q, lend o)"] * 15,
            *[f"call s = {ahead}(lend o, lend o, lend s)"] * 14,
            f"call s = {ahead}(lend o, lend o, lend s) -> 33 38",
            "move x = w", "move w = v", "move v = u", "move u = p -> 3 37 39",
            "move x = q -> 39", "move x = s", "return x",
        ]
    return program(*told)


class Numbers(unittest.TestCase):
    def test_examples(self):
        late, last = Fewest(LATE), Fewest(LAST)
        self.assertEqual(
            [late.fault, late.to("late", 3), late.to("late", 2, fact=("ended", "r")), late.faulty_run(), str(last)],
            [3, 3, 2, (("late", ((0, None), (1, None), (2, None))),), "fewest steps of 1 functions, no fault"])
        self.assertEqual(
            [last.out("last", ("from", "p", "")), last.out("last", ("from", "p", "next")),
             last.to("last", 2, fact=("ended", "p")), last.paper()["last"][1]],
            [2, 3, None, {("from", "p", ""): 2, ("from", "p", "next"): 3}])

    def test_by_the_states_of_walks(self):
        numbers = set()
        for seed in range(120):
            rng = random.Random(seed)
            told = random_program(rng, rng.randint(1, 4), rng.randint(3, 12))
            self.check(told, Fewest(told), Oracle(told), Table(told), rng, numbers)
        self.assertLess({None, *range(12)} - numbers, {1})

    def check(self, told, fewest, oracle, table, rng, numbers):
        worst = []
        for name in told.names:
            worst.append(oracle.fewest_faults(name))
            self.assertEqual(fewest.to_fault(name), worst[-1])
            for index in range(len(told[name])):
                for fact in (None, *facts_of(told, name)):
                    steps = fewest.to(name, index, fact=fact)
                    self.assertEqual(steps, oracle.fewest(name, index, fact))
                    numbers.add(steps)
                    if steps is not None and rng.random() < 0.1:
                        self.check_walk(told, name, index, fact, steps, fewest)
            for outcome in outcomes_of(told, name):
                steps = fewest.out(name, outcome)
                self.assertEqual(steps, oracle.outcomes.get((name, outcome)))
                if steps is not None:
                    lines = fewest.walk_out(name, outcome)
                    walk = Walk(told, lines)
                    self.assertEqual([walk.steps, walk.name, walk.outcome], [steps, name, outcome])
                    self.assertEqual(len(set(outline(told, lines))), len(lines) - 1)
        self.assertEqual(fewest.fault, min([steps for steps in worst if steps is not None], default=None))
        self.check_faults(told, fewest)
        reached = sum(table.is_reached(name, index) for name in told.names for index in range(len(told[name])))
        self.assertEqual(len(fewest), reached)
        ending = "no fault" if fewest.fault is None else f"a fault in {fewest.fault}"
        self.assertEqual(str(fewest), f"fewest steps of {len(told)} functions, {ending}")
        self.assertIs(is_length_paper(told, fewest.paper()), True)

    def check_walk(self, told, name, index, fact, steps, fewest):
        lines = fewest.walk_to(name, index, fact=fact)
        walk = Walk(told, lines)
        self.assertEqual([walk.steps, walk.name], [steps, name])
        self.assertIn(index, walk.nexts)
        self.assertTrue(fact is None or fact in walk.states[-1])
        self.assertEqual(len(set(outline(told, lines))), len(lines) - 1)

    def check_faults(self, told, fewest):
        for name in told.names:
            if fewest.to_fault(name) is not None:
                walk = Walk(told, fewest.faulty_walk(name))
                self.assertEqual([walk.name, walk.steps], [name, fewest.to_fault(name)])
                self.assertEqual(walk.faults[-1][0], len(walk) - 1)
        if fewest.fault is None:
            check_raises(self, InvalidOperation, fewest.faulty_run)
        else:
            run = Walk(told, fewest.faulty_run())
            self.assertEqual([run.is_run, run.steps, run.faults[0][0]], [True, fewest.fault, len(run) - 1])

    def test_walks_of_a_function_that_are_no_runs(self):
        fewest = Fewest(LINKED)
        self.assertEqual([fewest.to_fault(name) for name in LINKED.names], [None, 3, None, None, None, None])
        told = program("def t(): b own", "call s()", "touch b look", "return", "def s(): a own", "touch a look", "return")
        fewest = Fewest(told)
        self.assertEqual([fewest.to_fault("t"), fewest.to_fault("s"), fewest.fault], [4, 1, 1])
        self.assertEqual([Walk(told, fewest.faulty_walk("t")).is_run, Walk(told, fewest.faulty_walk("s")).is_run],
                         [False, True])
        self.assertEqual(fewest.faulty_run(), (("s", ((0, None),)),))
        self.assertEqual(str(fewest), "fewest steps of 2 functions, a fault in 1")

    def test_a_line_twice(self):
        """A shortest run with a fault can come to a line twice."""
        told = program("def t(a own, p look): r look", "lend r = p", "touch a full -> 2 3", "lend r = a -> 1",
                       "touch r look", "return")
        run = Walk(told, Fewest(told).faulty_run())
        self.assertEqual(run.way, ((0, None), (1, None), (2, None), (1, None), (3, None)))
        self.assertEqual([run.is_run, run.faults], [True, ((4, ("ended", "r")),)])

    def test_beginning_and_not_reached(self):
        fewest = Fewest(LOOPS)
        self.assertEqual([fewest.to("t", 0), fewest.to("t", 0, fact=("held", "p"))], [0, 0])
        self.assertEqual(fewest.walk_to("t", 0, fact=("empty", "a")), (("t", ()),))
        self.assertEqual([fewest.to("t", 3), fewest.to("t", 3, fact=("held", "p")), fewest.out("f", ("return",))],
                         [None, None, None])
        self.assertEqual([fewest.to("g", 3), fewest.out("g", ("from", "p", "")), fewest.out("g", ("from", "p", "f"))],
                         [1, 2, 5])
        self.assertEqual(len(fewest), 9)

    def test_great_numbers(self):
        started = time.perf_counter()
        told = tower(12, 39)
        fewest = Fewest(told)
        steps = 1
        for _ in range(11):
            steps = 39 * (steps + 1) + 1
        self.assertEqual(fewest.out("l", ("return",)), steps)
        self.assertGreater(steps, 10 ** 17)
        self.assertEqual(Walk(told, fewest.walk_out("l", ("return",))).steps, steps)
        self.assertEqual(fewest.to("l", 39), steps - 1)
        self.assertLess(time.perf_counter() - started, 20)

    def test_more_than_sixty_digits(self):
        started = time.perf_counter()
        told = chain()
        fewest = Fewest(told)
        steps = fewest.out("k", ("from", "s", ""))
        self.assertGreater(steps, 10 ** 65)
        lines = fewest.walk_out("k", ("from", "s", ""))
        walk = Walk(told, lines)
        self.assertEqual([walk.steps, walk.outcome], [steps, ("from", "s", "")])
        self.assertEqual(len(set(outline(told, lines))), len(lines) - 1)
        paper = fewest.paper()
        self.assertIs(is_length_paper(told, paper), True)
        for changed in (steps + 1, 10 ** 99):
            self.assertIs(is_length_paper(told, lowered(paper, "k", None, ("from", "s", ""), changed)), False)
        point = fewest.to("k", 39, fact=("from", "x", "s", ""))
        self.assertEqual([point + 1, Walk(told, fewest.walk_to("k", 39, fact=("from", "x", "s", ""))).steps],
                         [steps, point])
        self.assertLess(time.perf_counter() - started, 60)


class Asked(unittest.TestCase):
    def setUp(self):
        self.fewest = Fewest(LOOPS)
        self.names = wrong_for(UnknownName, "z", "", "p", LOOPS["t"])
        self.numbers = wrong_for(InvalidNumber, 6, -6, "0")
        self.facts = [(value, InvalidState) for value in [*odd_values(), (), ("held", "z"), ["held", "a"], ("ended", "a"),
                      "", False] if value is not None]

    def test_lines_and_facts(self):
        def to(name, index, fact):
            return self.fewest.to(name, index, fact=fact)

        def walk_to(name, index, fact):
            return self.fewest.walk_to(name, index, fact=fact)

        for good in (("t", 0, None), ("t", 2, ("held", "r"))):
            check_errors(self, to, good, [self.names, self.numbers, self.facts])
            check_errors(self, walk_to, good, [self.names, self.numbers, self.facts], [(1, 3, NotReached)])
        self.assertIsNone(to("t", 3, ("held", "r")))
        self.assertIsNone(to("t", 0, ("held", "r")))
        self.assertEqual(check_raises(self, NotReached, walk_to, "t", 3, ("held", "r")).point, 3)
        check_raises(self, NotReached, walk_to, "t", 4, None)
        check_raises(self, InvalidOperation, walk_to, "t", 0, ("held", "r"))
        check_raises(self, InvalidState, walk_to, "t", 3, ("held", "z"))
        with self.assertRaises(TypeError):
            self.fewest.to("t", 0, None)

    def test_outcomes(self):
        outcomes = wrong_for(InvalidOperation, (), ("own",), ("return",), ("from", "q", ""), ["from", "p", ""],
                             ("from", "p", "h"))
        for action in (self.fewest.out, self.fewest.walk_out):
            check_errors(self, action, ("g", ("from", "p", "")), [self.names, outcomes])
        self.assertIsNone(self.fewest.out("g", ("from", "p", "g")))
        check_raises(self, InvalidOperation, self.fewest.walk_out, "g", ("from", "p", "g"))
        check_raises(self, InvalidOperation, self.fewest.walk_out, "f", ("return",))
        self.assertEqual(self.fewest.walk_out("g", ("from", "p", "")), (("g", ((0, None), (3, None))),))

    def test_faults(self):
        for action in (Fewest(LATE).to_fault, Fewest(LATE).faulty_walk):
            check_errors(self, action, ("late",), [wrong_for(UnknownName, "r", "", "t")])
        for name in LOOPS.names:
            self.assertIsNone(self.fewest.to_fault(name))
            check_raises(self, InvalidOperation, self.fewest.faulty_walk, name)
        check_raises(self, InvalidOperation, self.fewest.faulty_run)
        check_raises(self, UnknownName, self.fewest.faulty_walk, "z")
        self.assertIsNone(self.fewest.fault)

    def test_faults_that_need_no_fact(self):
        told = program("def t(a own)", "skip", "call g(move a, move a)", "return", "def g(p own, q own)", "return")
        fewest = Fewest(told)
        self.assertEqual([fewest.fault, fewest.faulty_run()], [2, (("t", ((0, None), (1, None))),)])

    def test_equality(self):
        self.assertEqual(self.fewest, Fewest(Program.from_lines(*LOOPS.text)))
        self.assertNotEqual(Fewest(LAST), Fewest(CACHE))
        for value in [*odd_values(), LOOPS, Table(LOOPS)]:
            self.assertIs(self.fewest == value, False)
            self.assertIs(self.fewest != value, True)
        self.assertEqual(self.fewest.program, LOOPS)

    def test_no_iteration(self):
        with self.assertRaises(TypeError):
            list(self.fewest)

    def test_errors(self):
        for value in odd_values():
            if not isinstance(value, Program):
                check_raises(self, InvalidProgram, Fewest, value)
        programs = [pair for pair in wrong_for(InvalidProgram) if not isinstance(pair[0], Program)]
        check_errors(self, is_length_paper, (LOOPS, self.fewest.paper()), [programs])
        check_errors(self, is_length_paper, (LOOPS, None), [programs])


def lowered(paper, name, index, key, steps):
    """The paper with another number for a fact, for a line (None), or for an outcome (without an index)."""
    points, outcomes = paper[name]
    if index is None:
        return {**paper, name: (points, {**outcomes, key: steps})}
    points = (*points[:index], {**points[index], key: steps}, *points[index + 1:])
    return {**paper, name: (points, outcomes)}


def all_keys(paper):
    for name in paper:
        points, outcomes = paper[name]
        for index, numbers in enumerate(points):
            for key in numbers:
                yield name, index, key, numbers[key]
        for key in outcomes:
            yield name, None, key, outcomes[key]


class Papers(unittest.TestCase):
    def test_keys_and_their_order(self):
        for told in (LAST, CACHE, LATE, KEEP, LOOPS, LINKED):
            paper, rows = Fewest(told).paper(), Table(told).rows
            self.assertEqual(list(paper), list(told.names))
            for name in told.names:
                points, outcomes = paper[name]
                wanted = [[] if state is None else [None, *state] for state in rows[name][0]]
                self.assertEqual([list(numbers) for numbers in points], wanted)
                self.assertEqual(list(outcomes), list(rows[name][1]))
            for name, index, key, steps in all_keys(paper):
                found = Fewest(told).out(name, key) if index is None else Fewest(told).to(name, index, fact=key)
                self.assertEqual(found, steps)

    def test_a_paper_belongs_to_the_caller(self):
        fewest = Fewest(LAST)
        paper = fewest.paper()
        paper["last"][0][0].clear()
        paper["last"][1].clear()
        paper.clear()
        self.assertEqual(fewest.paper(), Fewest(LAST).paper())
        self.assertIs(is_length_paper(LAST, fewest.paper()), True)

    def test_great_and_lesser_numbers(self):
        for told in (LAST, CACHE, LATE, KEEP, LOOPS, LINKED):
            paper = Fewest(told).paper()
            self.judge(told, paper, True)
            self.judge(told, dict(reversed(paper.items())), True)
            for name, index, key, steps in all_keys(paper):
                for more in (1, 2, 10 ** 70):
                    self.judge(told, lowered(paper, name, index, key, steps + more), False)
            none = {name: (tuple({key: 0 for key in numbers} for numbers in paper[name][0]),
                           {key: 0 for key in paper[name][1]}) for name in paper}
            self.judge(told, none, True)

    def judge(self, told, value, wanted):
        check_judge(self, lambda value: is_length_paper(told, value), value, wanted)

    def test_negative_numbers(self):
        paper = Fewest(KEEP).paper()
        for index, key in ((None, ("return",)), (4, ("held", "a")), (4, None)):
            self.judge(KEEP, lowered(paper, "keep", index, key, 0), key is not None)
            self.judge(KEEP, lowered(paper, "keep", index, key, -1), False)

    def test_other_keys(self):
        for told in (KEEP, LOOPS):
            paper = Fewest(told).paper()
            for name, index, key, _ in all_keys(paper):
                points, outcomes = paper[name]
                numbers = outcomes if index is None else points[index]
                for other in (("held", "z"), ("empty", "c"), 0, "held"):
                    if other not in numbers:
                        changed = {other if old == key else old: steps for old, steps in numbers.items()}
                        row = (points, changed) if index is None else (
                            (*points[:index], changed, *points[index + 1:]), outcomes)
                        self.judge(told, {**paper, name: row}, False)
            for other in ("z", 0, None):
                self.judge(told, {other if name == "t" else name: paper[name] for name in paper}, told == KEEP)

    def test_what_is_at_most_one_more(self):
        """Lesser numbers ahead of a step make the greatest ones behind it wrong."""
        told = program("def t(p full)", "skip", "skip", "return")
        paper = Fewest(told).paper()
        for steps, wanted in ((1, True), (0, False)):
            value = lowered(paper, "t", 1, None, steps)
            self.judge(told, value, wanted)
            self.judge(told, lowered(lowered(value, "t", 2, None, steps + 1), "t", None, ("return",), steps + 2), True)
        value = lowered(paper, "t", 1, ("held", "p"), 0)
        self.judge(told, value, False)
        self.judge(told, lowered(value, "t", 2, ("held", "p"), 1), True)

    def test_facts_that_need_none(self):
        """A fact that needs none ahead is bounded by the line, not by other facts."""
        told = program("def t(p look): r look, a own", "skip", "new a", "touch a look", "return")
        paper = Fewest(told).paper()
        value = lowered(paper, "t", 1, ("empty", "a"), 0)
        self.judge(told, value, True)
        told = program("def t(): a own", "skip -> 1 2", "new a", "skip -> 0 3", "return")
        paper = Fewest(told).paper()
        self.assertEqual(paper["t"][0][2], {None: 1, ("empty", "a"): 1, ("held", "a"): 2})
        self.judge(told, lowered(paper, "t", 1, ("held", "a"), 0), True)

    def test_calls(self):
        told = program("def t()", "call s()", "return", "def s()", "skip -> 1 2", "return", "skip -> 1")
        paper = Fewest(told).paper()
        self.assertEqual([paper["t"][0][1][None], paper["t"][1]], [3, {("return",): 4}])
        self.judge(told, lowered(paper, "s", None, ("return",), 1), False)
        value = lowered(lowered(paper, "s", None, ("return",), 1), "t", 1, None, 2)
        self.judge(told, lowered(value, "t", None, ("return",), 3), True)
        self.judge(told, value, False)

    def test_several_outcomes(self):
        told = program("def t(a own): r look", "call r = s(lend a, lend a)", "return",
                       "def s(p look, q look) look", "skip -> 1 2", "return p", "skip", "return q")
        paper = Fewest(told).paper()
        self.assertEqual([paper["t"][0][1][None], paper["s"][1]], [3, {("from", "p", ""): 2, ("from", "q", ""): 3}])
        value = lowered(paper, "s", None, ("from", "q", ""), 0)
        self.judge(told, value, False)
        for key in (None, ("held", "r"), ("into", "r", "a", "")):
            value = lowered(value, "t", 1, key, 1)
        self.judge(told, value, False)
        self.judge(told, lowered(lowered(value, "t", 1, ("held", "a"), 1), "t", None, ("return",), 2), True)

    def test_no_papers(self):
        paper = Fewest(LOOPS).paper()
        points, outcomes = paper["g"]
        for row in ((points,), [points, outcomes], (list(points), outcomes), (points[1:], outcomes), (points, {}),
                    ((*points, {}), outcomes), (points, tuple(outcomes)), (points, None), (None, outcomes), None, (),
                    (({}, *points[1:]), outcomes), (((), *points[1:]), outcomes), ((None, *points[1:]), outcomes),
                    (points, {**outcomes, ("from", "p", "g"): 1}), (points, {**outcomes, None: 1}),
                    (points, {key: None for key in outcomes}), (points, {key: True for key in outcomes}),
                    (points, {key: False for key in outcomes}), (points, {key: -1 for key in outcomes}),
                    (points, {key: "1" for key in outcomes}), (points, {key: (1,) for key in outcomes})):
            self.judge(LOOPS, {**paper, "g": row}, False)
        begin = points[0]
        for numbers in ({**begin, None: False}, {**begin, ("held", "p"): False}, {**begin, ("held", "q"): 0},
                        {**begin, "held": 0}, {**begin, 0: 0}, {**begin, None: -1}, {**begin, None: 1},
                        {key: begin[key] for key in begin if key is not None},
                        {key: begin[key] for key in begin if key != ("held", "p")}):
            self.judge(LOOPS, {**paper, "g": ((numbers, *points[1:]), outcomes)}, False)
        for value in [*odd_values(), {}, {**paper, "z": paper["f"]}, {"f": paper["f"], "g": paper["g"]},
                      list(paper.items()), {**paper, None: paper["f"]}, Table(LOOPS).rows]:
            self.judge(LOOPS, value, False)
            self.judge(LOOPS, {**paper, "f": value}, False)
            self.judge(LOOPS, lowered(paper, "g", None, ("from", "p", ""), value), False)

    def test_lines_that_are_not_reached(self):
        paper = Fewest(LOOPS).paper()
        self.assertEqual([paper["t"][0][3], paper["f"][0][1], paper["f"][1]], [{}, {}, {}])
        points, outcomes = paper["t"]
        for numbers in ({None: 0}, {("held", "p"): 0}, None, ()):
            self.judge(LOOPS, {**paper, "t": ((*points[:3], numbers, *points[4:]), outcomes)}, False)

    def test_no_number_is_greater_than_the_fewest_steps(self):
        for seed in range(25):
            rng = random.Random(seed)
            told = random_program(rng, 2, 6)
            paper = Fewest(told).paper()
            self.judge(told, paper, True)
            for name, index, key, steps in all_keys(paper):
                self.judge(told, lowered(paper, name, index, key, steps + 1), False)


if __name__ == "__main__":
    unittest.main()
