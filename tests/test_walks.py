"""Walks: which walk lines are some, what is asked about walks, and longer ones."""

import random
import unittest

from loanpairs.base.programs import Program
from loanpairs.core.facts import faults_at, outcomes_at, start_state, state_behind
from loanpairs.core.walks import MAX_PAIRS, MAX_WAY, Walk, is_walk
from loanpairs.errors import InvalidNumber, InvalidOperation, InvalidProgram, InvalidWalk, TooMany, UnknownName
from tests.helper import KEEP, LAST, LATE, check_errors, check_judge, check_raises, odd_values, program, wrong_for
from tests.makers import is_faulty, random_program, random_walk

# g returns with either of two outcomes, or with none; the second call in t always has a fault, as b is empty.
CALLING = program(
    "def t(a own, p full): r full, b own",
    "call r = g(lend a.f, move p)", "call r = g(move r, lend b)", "call s()", "return",
    "def g(u full, v full) full: x own, y full", "skip -> 1 2 3", "return u", "return v", "new x", "lend y = x",
    "return y",
    "def s()", "skip -> 0 1", "return",
)
FIRST = ("g", ((0, None), (1, None)))
SECOND = ("g", ((0, None), (2, None)))
OWNED = ("g", ((0, None), (3, None), (4, None), (5, None)))
SHORT = ("s", ((0, None), (1, None)))
RECURSIVE = program("def rec(p full): q full", "lend q = p.f -> 1 2", "call rec(lend q)", "return")


def rounds(many):
    """Walk lines of s with so many steps."""
    return ("s", (*[(0, None)] * (many - 1), (1, None)))


class Judged(unittest.TestCase):
    def check(self, value, good, told=CALLING):
        check_judge(self, lambda value: is_walk(told, value), value, good)
        if not good:
            check_raises(self, InvalidWalk, Walk, told, value)
        else:
            self.assertEqual(Walk(told, value).lines, value)

    def test_of_one_function(self):
        for way in ((), ((0, None),), ((0, None), (2, None)), ((0, None), (3, None), (4, None), (5, None))):
            self.check((("g", way),), True)
        for way in (((1, None),), ((0, None), (0, None)), ((0, None), (4, None)), ((0, None), (1, None), (2, None)),
                    ((0, None), (5, None)), ((0, 0),), ((0, None), (1, 0)), ((False, None),), ((0, False),),
                    ((0, None), (True, None)), ((0, None), (-5, None)), ((0,),), ((0, None, None),), (0,), (None,),
                    [(0, None)], ([0, None],), ((0, None), None), ((), ), ((0, ()),), ((0, "g"),), (("0", None),),
                    ((None, None),), ((10 ** 60, None),), ((0, None), (10 ** 99, None))):
            self.check((("g", way),), False)

    def test_pairs(self):
        self.check((), False)
        for value in (("g", ()), (("g",),), (("g", (), ()),), [("g", ())], (["g", ()],), (("t",),), ((None, ()),),
                      (("z", ()),), (("", ()),), ((CALLING["g"], ()),), (("g", None),), (("g", "")), (("g", {}),),
                      (("g", ()), None), (None, ("g", ())), ("g",), {"g": ()}, {("g", ()): 1}):
            self.check(value, False)
        for value in odd_values():
            self.check(value, False)
            for way in ((value,), value, ((value, None),), ((0, value),)):
                if value is not None:
                    self.check((("g", way),), False)

    def test_called_walks(self):
        call = ("t", ((0, 0),))
        self.check((FIRST, call), True)
        self.check((SECOND, call), True)
        self.check((FIRST, SECOND, ("t", ((0, 1),))), True)
        self.check((FIRST, SECOND, ("t", ((0, 0), (1, 0), (2, None))),), False)
        self.check((FIRST, SHORT, ("t", ((0, 0), (1, 0), (2, 1), (3, None))),), True)
        self.check((FIRST, SHORT, ("t", ((0, 0), (1, 0), (2, 1), (3, 1))),), False)

    def test_called_walks_that_are_none(self):
        self.check((FIRST, ("t", ((0, 1),))), False)
        self.check((FIRST, ("t", ((0, 2),))), False)
        self.check((FIRST, ("t", ((0, -1),))), False)
        self.check((FIRST, ("t", ((0, False),))), False)
        self.check((FIRST, FIRST, ("t", ((0, True),))), False)
        self.check((("t", ((0, 1),)), FIRST), False)
        self.check((SHORT, ("t", ((0, 0),))), False)
        self.check((("t", ()), ("t", ((0, 0),))), False)
        self.check((("g", ((0, None),)), ("t", ((0, 0),))), False)
        self.check((("g", ()), ("t", ((0, 0),))), False)
        self.check((OWNED, ("t", ((0, 0),))), False)
        # Not even a call with a fault is told with a walk that does not return with an outcome.
        for inner in (("g", ()), ("g", ((0, None),)), OWNED, SHORT, ("t", ())):
            self.check((FIRST, inner, ("t", ((0, 0), (1, 1)))), False)
        self.check((FIRST, SECOND, ("t", ((0, 0), (1, 1)))), True)
        self.check((("s", ((0, None),)), FIRST, ("t", ((0, 1), (1, 1), (2, 0)))), False)
        self.check((("t", ((0, 0),)),), False)

    def test_calls_without_called_walks(self):
        self.check((("t", ((0, None),)),), False)
        self.check((FIRST, ("t", ((0, 0), (1, None)))), True)
        self.check((FIRST, SHORT, ("t", ((0, 0), (1, None), (2, 1)))), False)
        self.check((FIRST, SHORT, ("t", ((0, 0), (1, 0), (2, None)))), False)
        self.check((FIRST, ("t", ((0, 0), (1, None), (2, None)))), False)

    def test_earlier_pairs(self):
        self.check((OWNED, FIRST, SECOND, SHORT, ("t", ((0, 2),))), True)
        self.check((FIRST, FIRST, ("t", ((0, 1), (1, 0)))), True)
        self.check((("g", ((1, None),)), FIRST, ("t", ((0, 1),))), False)
        self.check((("t", ((0, None),)), FIRST, ("t", ((0, 1),))), False)

    def test_recursion(self):
        pairs = [("rec", ((0, None), (2, None)))]
        for at in range(6):
            pairs.append(("rec", ((0, None), (1, at), (2, None))))
            self.check(tuple(pairs), True, RECURSIVE)
            self.check((*pairs, ("rec", ((0, None), (1, at + 2), (2, None)))), False, RECURSIVE)
        self.check((("rec", ((0, None), (1, 0), (2, None))),), False, RECURSIVE)

    def test_returns_without_an_outcome(self):
        told = program("def t(): r look", "call r = g()", "return", "def g() look: x look", "return x")
        self.check((("g", ((0, None),)),), True, told)
        self.check((("g", ((0, None),)), ("t", ((0, 0),))), False, told)

    def test_called_walks_with_faults(self):
        told = program("def t(): b own", "call b = g()", "return", "def g() own: x own", "return x")
        value = (("g", ((0, None),)), ("t", ((0, 0), (1, None))))
        self.check(value, True, told)
        self.assertEqual([Walk(told, value).is_run, Walk(told, value[:1]).is_run], [False, True])

    def test_many_steps(self):
        self.assertEqual((MAX_PAIRS, MAX_WAY), (2000, 2000))
        self.check((rounds(2000),), True)
        self.check((rounds(2001),), False)
        self.check((rounds(2001), FIRST), False)
        self.check((("s", ((0, None),) * 2000),), True)
        self.check((("s", ((0, None),) * 2001),), False)

    def test_many_pairs(self):
        self.check((SHORT,) * 2000, True)
        self.check((SHORT,) * 2001, False)

    def test_errors(self):
        programs = [pair for pair in wrong_for(InvalidProgram) if not isinstance(pair[0], Program)]
        check_errors(self, is_walk, (CALLING, (FIRST,)), [programs])
        check_errors(self, is_walk, (CALLING, None), [programs])
        lines = wrong_for(InvalidWalk, (), [FIRST], FIRST, (("g", ((1, None),)),))
        check_errors(self, Walk, (CALLING, (FIRST,)), [programs, lines])
        names = wrong_for(UnknownName, "a", "", CALLING["g"])
        check_errors(self, Walk.begin, (CALLING, "g"), [programs, names])


class Asked(unittest.TestCase):
    def test_examples(self):
        late = Walk(LATE, (("late", ((0, None), (1, None), (2, None))),))
        self.assertEqual([late.faults, late.is_run, late.outcome, late.steps, late.nexts, str(late)],
                         [((2, ("ended", "r")),), True, None, 3, (3,), "walk of late: 3 steps, 1 faults"])
        twice = Walk.begin(LAST, "last").longer(0).longer(1).longer(1).longer(2)
        self.assertEqual(
            [twice.lines, twice.outcome, len(twice.states), is_walk(LAST, (("last", ((0, None), (0, None))),))],
            [(("last", ((0, None), (1, None), (1, None), (2, None))),), ("from", "p", "next"), 4, False])

    def test_begin(self):
        walk = Walk.begin(KEEP, "keep")
        self.assertEqual([walk.program, walk.lines, walk.name, walk.way], [KEEP, (("keep", ()),), "keep", ()])
        self.assertEqual([walk.states, walk.faults, walk.outcome], [(start_state(KEEP, "keep"),), (), None])
        self.assertEqual([walk.is_run, walk.steps, walk.nexts, len(walk)], [True, 0, (0,), 0])
        self.assertEqual(str(walk), "walk of keep: 0 steps, 0 faults")

    def test_states(self):
        walk = Walk(KEEP, (("keep", ((0, None), (1, None), (2, None), (3, None), (4, None))),))
        state, wanted = start_state(KEEP, "keep"), []
        for index in range(4):
            wanted.append(state)
            state = state_behind(KEEP, "keep", index, state)
        self.assertEqual(walk.states, (*wanted, state))
        self.assertEqual(walk.nexts, ())
        for many in range(1, 5):
            part = Walk(KEEP, (("keep", walk.way[:many]),))
            self.assertEqual(part.states, walk.states[:many + 1])
            self.assertEqual(part.nexts, (many,))

    def test_a_fault_that_ends_the_way(self):
        broken = Walk(CALLING, (FIRST, ("t", ((0, 0), (1, None)))))
        self.assertEqual([broken.faults, broken.nexts, len(broken.states), broken.steps, broken.is_run],
                         [((1, ("empty", "b")),), (), 2, 4, True])
        going = Walk(CALLING, (FIRST, ("t", ((0, 0), (1, 0)))))
        self.assertEqual([going.faults, going.nexts, len(going.states), going.steps, going.is_run],
                         [((1, ("empty", "b")),), (2,), 3, 6, True])
        self.assertNotEqual(broken, going)
        further = Walk(CALLING, (FIRST, SHORT, ("t", ((0, 0), (1, 0), (2, 1)))))
        self.assertEqual([further.is_run, further.faults], [False, going.faults])

    def test_several_faults_of_a_step(self):
        told = program("def t(): a own, b own", "put a.f = b", "put a.f = b", "return")
        walk = Walk(told, (("t", ((0, None), (1, None))),))
        self.assertEqual(walk.faults, ((0, ("empty", "b")), (0, ("empty", "a")), (1, ("empty", "b")),
                                       (1, ("empty", "a"))))
        self.assertEqual([walk.is_run, str(walk)], [False, "walk of t: 2 steps, 4 faults"])
        self.assertIs(Walk(told, (("t", ((0, None),)),)).is_run, True)

    def test_runs(self):
        told = program("def t()", "call s()", "call s()", "return", "def s(): a own", "touch a look -> 1 2", "return",
                       "call e()", "return", "def e()", "return")
        sane = program("def t()", "call s()", "call s()", "return", "def s(): a own", "skip -> 1 2", "return",
                       "call e()", "return", "def e()", "return")
        lines = (("e", ((0, None),)), ("s", ((0, None), (2, 0), (3, None))), ("t", ((0, 1),)))
        self.assertIs(Walk(told, lines).is_run, False)
        self.assertIs(Walk(told, lines[:2]).is_run, False)
        self.assertIs(Walk(told, (("s", ((0, None),)),)).is_run, True)
        self.assertIs(Walk(sane, lines).is_run, True)
        told = program("def t()", "call s()", "call e()", "return", "def s(): a own", "touch a look", "return",
                       "def e()", "return")
        lines = (("s", ((0, None), (1, None))), ("e", ((0, None),)), ("t", ((0, 0), (1, 1), (2, None))))
        self.assertEqual([Walk(told, lines).is_run, Walk(told, lines).faults], [False, ()])
        deep = program("def t()", "call s()", "return", "def s()", "call e()", "return",
                       "def e(): a own", "drop a -> 1 2", "return", "touch a look", "return")
        for last, good in ((1, True), (2, False)):
            end = ((1, None),) if last == 1 else ((2, None), (3, None))
            lines = (("e", ((0, None), *end)), ("s", ((0, 0), (1, None))), ("t", ((0, 1),)))
            self.assertIs(Walk(deep, lines).is_run, good)
        # A called walk is asked about a fault in its last step, too.
        told = program("def t(a own): r look", "call r = g(lend a)", "return",
                       "def g(p look) look: q look, b own", "lend q = p", "touch b look -> 2 3", "return q",
                       "return q")
        lines = (("g", ((0, None), (1, None), (2, None))), ("t", ((0, 0),)))
        self.assertEqual([Walk(told, lines).is_run, Walk(told, lines).faults], [False, ()])

    def test_steps(self):
        told = program("def t()", "skip -> 1 3", "call t()", "call t()", "return")
        pairs = [("t", ((0, None), (3, None)))]
        steps = 2
        for at in range(150):
            pairs.append(("t", ((0, None), (1, at), (2, at), (3, None))))
            steps = 4 + 2 * steps
            self.assertEqual(Walk(told, tuple(pairs)).steps, steps)
        self.assertGreater(steps, 10 ** 45)
        way = ((0, None), (1, 0), (2, 0), (3, None))
        self.assertEqual(Walk(told, (pairs[0], pairs[1], ("t", way))).steps, 8)

    def test_inner(self):
        lines = (OWNED, SECOND, FIRST, SHORT, FIRST, ("t", ((0, 4), (1, 1), (2, 3), (3, None))))
        walk = Walk(CALLING, lines)
        self.assertEqual([walk.inner(at).lines for at in range(3)], [(FIRST,), (SECOND,), (SHORT,)])
        self.assertEqual(walk.inner(0).outcome, ("from", "u", ""))
        broken = Walk(CALLING, (FIRST, ("t", ((0, 0), (1, None)))))
        for value in [*odd_values(), 3, 4, -1, True, "0"]:
            self.assertIs(check_raises(self, InvalidNumber, walk.inner, value).given, value)
        check_raises(self, InvalidNumber, broken.inner, 1)
        check_raises(self, InvalidNumber, Walk(LATE, (("late", ((0, None),)),)).inner, 0)

    def test_inner_lines_stay_in_order(self):
        leaf, one = ("rec", ((0, None), (2, None))), ("rec", ((0, None), (1, 0), (2, None)))
        told = (leaf, leaf, ("rec", ((0, None), (1, 1), (2, None))), one,
                ("rec", ((0, None), (1, 2), (2, None))), ("rec", ((0, None), (1, 4), (2, None))))
        self.assertEqual(Walk(RECURSIVE, told).inner(1).lines,
                         (leaf, one, ("rec", ((0, None), (1, 1), (2, None)))))

    def test_inner_lines_can_be_alike(self):
        told = program("def t()", "skip -> 1 3", "call t()", "call t()", "return")
        leaf = ("t", ((0, None), (3, None)))
        mid = ("t", ((0, None), (1, 1), (2, 0), (3, None)))
        lines = (leaf, leaf, mid, ("t", ((0, None), (1, 2))))
        self.assertEqual(Walk(told, lines).inner(1).lines, (leaf, leaf, mid))

    def test_nexts(self):
        self.assertEqual(Walk(CALLING, (("g", ((0, None),)),)).nexts, (1, 2, 3))
        self.assertEqual(Walk(CALLING, (FIRST,)).nexts, ())
        self.assertEqual(Walk(CALLING, (FIRST, ("t", ((0, 0),)))).nexts, (1,))

    def test_no_iteration(self):
        with self.assertRaises(TypeError):
            list(Walk.begin(LAST, "last"))


class Equal(unittest.TestCase):
    def test_other_lines(self):
        one = Walk(CALLING, (FIRST, SHORT, ("t", ((0, 0), (1, 0), (2, 1)))))
        other = Walk(CALLING, (SHORT, FIRST, OWNED, FIRST, ("t", ((0, 3), (1, 1), (2, 0)))))
        self.assertEqual(one, other)
        self.assertNotEqual(one.lines, other.lines)
        self.assertIs(one != other, False)

    def test_differing_steps(self):
        one = Walk(CALLING, (FIRST, SECOND, ("t", ((0, 0), (1, 0)))))
        for lines in ((FIRST, SECOND, ("t", ((0, 0), (1, 1)))), (FIRST, SECOND, ("t", ((0, 1), (1, 0)))),
                      (FIRST, ("t", ((0, 0), (1, None)))), (FIRST, ("t", ((0, 0),))), (FIRST,)):
            self.assertNotEqual(one, Walk(CALLING, lines))

    def test_programs_and_names(self):
        both = LAST | KEEP
        self.assertNotEqual(Walk.begin(both, "last"), Walk.begin(both, "keep"))
        self.assertNotEqual(Walk.begin(both, "last"), Walk.begin(LAST, "last"))
        self.assertEqual(Walk.begin(both, "last"), Walk.begin(KEEP | LAST, "last"))

    def test_other_values(self):
        walk = Walk.begin(LAST, "last").longer(0)
        for value in odd_values():
            self.assertIs(walk == value, isinstance(value, Walk))
            self.assertIs(walk != value, not isinstance(value, Walk))

    def test_deep_ones(self):
        told = program("def t()", "skip -> 1 3", "call t()", "call t()", "return")
        leaf = ("t", ((0, None), (3, None)))
        pairs, others = [leaf], [leaf, leaf]
        for at in range(900):
            pairs.append(("t", ((0, None), (1, at), (2, at), (3, None))))
            others += [("t", ((0, None), (1, 2 * at), (2, 2 * at + 1), (3, None)))] * 2
        one, other = Walk(told, tuple(pairs)), Walk(told, tuple(others))
        self.assertEqual(one, other)
        self.assertEqual(one.steps, other.steps)
        self.assertNotEqual(one, Walk(told, tuple(pairs[:-1])))


class Longer(unittest.TestCase):
    def test_step_by_step(self):
        walk = Walk.begin(CALLING, "t")
        first, second = Walk(CALLING, (OWNED, FIRST)), Walk(CALLING, (SECOND,))
        longer = walk.longer(0, first)
        self.assertEqual([longer.lines, walk.lines], [(FIRST, ("t", ((0, 0),))), (("t", ()),)])
        twice = longer.longer(1, second)
        self.assertEqual(len(twice.lines), 3)
        self.assertEqual(twice, Walk(CALLING, (FIRST, SECOND, ("t", ((0, 0), (1, 1))))))
        alike = longer.longer(1, Walk(CALLING, (FIRST,)))
        self.assertEqual(alike.lines, (FIRST, ("t", ((0, 0), (1, 0)))))
        broken = longer.longer(1)
        self.assertEqual([broken.nexts, broken.lines], [(), (FIRST, ("t", ((0, 0), (1, None))))])

    def test_behind_a_called_walk_with_a_fault(self):
        told = program("def t()", "call s()", "skip", "return", "def s(): a own", "touch a look", "return")
        walk = Walk.begin(told, "t").longer(0, Walk(told, (("s", ((0, None), (1, None))),)))
        for index in (1, 2):
            self.assertEqual([walk.is_run, walk.faults], [False, ()])
            walk = walk.longer(index)
        self.assertEqual([walk.is_run, walk.faults, walk.outcome], [False, (), ("return",)])

    def test_lines_that_are_not_needed_or_alike(self):
        walk = Walk(CALLING, (OWNED, FIRST, SHORT, FIRST, ("t", ((0, 1), (1, 3)))))
        longer = walk.longer(2, Walk(CALLING, (SHORT, FIRST, SHORT)))
        self.assertEqual(sorted(longer.lines[:-1]), sorted([FIRST, SHORT]))
        self.assertEqual(longer, Walk(CALLING, (FIRST, SHORT, ("t", ((0, 0), (1, 0), (2, 1))))))
        self.assertEqual(walk.lines[0], OWNED)

    def test_lines_that_cannot_come_next(self):
        walk = Walk(CALLING, (("g", ((0, None),)),))
        for value in [*odd_values(), 0, 4, "1", (1,)]:
            self.assertIs(check_raises(self, InvalidNumber, walk.longer, value).given, value)
            self.assertIs(check_raises(self, InvalidNumber, walk.longer, value, 3).given, value)
        for lines in ((FIRST,), (FIRST, ("t", ((0, 0), (1, None))))):
            for value in (0, 1, 2, 3, None):
                check_raises(self, InvalidNumber, Walk(CALLING, lines).longer, value)
        check_raises(self, InvalidNumber, Walk.begin(LAST, "last").longer, 1)
        check_raises(self, InvalidNumber, Walk.begin(LAST, "last").longer, False)

    def test_called_walks_that_are_not_as_told(self):
        walk = Walk.begin(CALLING, "t")
        given = [Walk(CALLING, lines) for lines in (
            (OWNED,), (SHORT,), (("g", ()),), (("g", ((0, None),)),), (("t", ()),), (FIRST, ("t", ((0, 0),))))]
        given += [Walk(program(*CALLING.text[1:], "def z()", "return"), (FIRST,)), CALLING, FIRST, (FIRST,), 0, "g"]
        for value in [*given, *odd_values(), None]:
            check_raises(self, InvalidOperation, walk.longer, 0, value)
        self.assertEqual(len(walk.longer(0, Walk(Program.from_lines(*CALLING.text), (FIRST,)))), 1)
        other = Walk.begin(CALLING, "g")
        for value in (Walk(CALLING, (FIRST,)), Walk(CALLING, (SHORT,)), 0, False, ()):
            check_raises(self, InvalidOperation, other.longer, 0, value)

    def test_too_many_steps(self):
        walk = Walk(CALLING, (("s", ((0, None),) * 1999),))
        full = walk.longer(0)
        self.assertEqual(len(full), 2000)
        for index in (0, 1):
            self.assertEqual(check_raises(self, TooMany, full.longer, index).limit, 2000)
        check_raises(self, InvalidNumber, full.longer, 2)
        check_raises(self, InvalidOperation, full.longer, 1, walk)

    def test_too_many_lines(self):
        told = program("def t()", "skip -> 1 3", "call t()", "call t()", "return")
        pairs = [("t", ((0, None), (3, None)))]
        for at in range(1998):
            pairs.append(("t", ((0, None), (1, at), (2, at), (3, None))))
        inner = Walk(told, tuple(pairs))
        longer = Walk.begin(told, "t").longer(0).longer(1, inner)
        self.assertEqual(len(longer.lines), 2000)
        longer = longer.longer(2, inner).longer(3)
        self.assertEqual([len(longer.lines), longer.lines[:-1]], [2000, tuple(pairs)])
        start = Walk.begin(told, "t").longer(0)
        self.assertEqual(check_raises(self, TooMany, start.longer, 1, longer).limit, 2000)
        other = Walk(told, (pairs[0], ("t", ((0, None), (1, 0), (2, 0), (3, None))), ("t", ((0, None), (1, 1)))))
        self.assertEqual(len(other.longer(2, inner).lines), 2000)
        odd = Walk(told, (pairs[0], pairs[1], ("t", ((0, None), (1, 1), (2, 0), (3, None))), ("t", ((0, None), (1, 2)))))
        check_raises(self, TooMany, odd.longer, 2, inner)
        check_raises(self, InvalidOperation, odd.longer, 2)

    def test_chance(self):
        for seed in range(80):
            rng = random.Random(seed)
            told = random_program(rng, 3, 8)
            for name in told.names:
                self.check(random_walk(rng, told, name))

    def check(self, walk):
        """What was made step by step is what the lines tell."""
        again = Walk(walk.program, walk.lines)
        for asked in ("name", "way", "states", "faults", "outcome", "is_run", "steps", "nexts"):
            self.assertEqual(getattr(walk, asked), getattr(again, asked))
        self.assertEqual([walk, str(walk), len(walk)], [again, str(again), len(again.way)])
        self.assertEqual(len(set(walk.lines)), len(walk.lines))
        steps, faults = 0, []
        for at, (index, called) in enumerate(walk.way):
            faults += [(at, fault) for fault in faults_at(walk.program, walk.name, index, walk.states[at])]
            inner = None if called is None else walk.inner(at)
            steps += 1 + (0 if inner is None else inner.steps)
            if at + 1 < len(walk.states):
                outcome = None if inner is None else inner.outcome
                behind = state_behind(walk.program, walk.name, index, walk.states[at], outcome)
                self.assertEqual(walk.states[at + 1], behind)
        self.assertEqual([walk.steps, walk.faults], [steps, tuple(faults)])
        if walk.way:
            index = walk.way[-1][0]
            found = outcomes_at(walk.program, walk.name, index, walk.states[len(walk.way) - 1])
            self.assertEqual(walk.outcome, found[0] if found else None)
        inner = [walk.inner(at) for at, (_, called) in enumerate(walk.way) if called is not None]
        calm = not any(is_faulty(called) for called in inner)
        self.assertIs(walk.is_run, calm and all(at == len(walk) - 1 for at, _ in walk.faults))


if __name__ == "__main__":
    unittest.main()
