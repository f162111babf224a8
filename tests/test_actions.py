"""What each form of a step does to facts: its faults, and the states behind it."""

import random
import unittest

from loanpairs.core.facts import faults_at, outcomes_at, start_state, state_behind
from tests.helper import KEEP, LAST, LATE, program
from tests.makers import facts_of, outcomes_of, random_program, random_state

HEAD = "def t(a own, p full, q look): b own, r full, s full, x look, y look"
CALLED = (
    "def give(u full, v look, w own) full", "return u",
    "def peek(u look, v look, w look) look", "return v",
    "def make(u full) own: n own", "new n", "return n",
    "def see(u look, v full)", "return",
    "def eat(u own, v full)", "return",
)


def told_of(step):
    """A program with this step in line 0 of t."""
    return program(HEAD, step, "return", *CALLED)


def facts(text):
    """The state that a text like `held a, r into a.f, r from p` tells."""
    return tuple(sorted(fact(words.split(" ")) for words in text.split(", ") if words))


def fact(words):
    if len(words) == 2:
        return tuple(words)
    name, _, part = words[2].partition(".")
    return (words[1], words[0], name, part)


class Steps(unittest.TestCase):
    def check(self, step, ahead, behind, faults=(), outcome=None):
        told, state = told_of(step), facts(ahead)
        self.assertEqual(state_behind(told, "t", 0, state, outcome), facts(behind), step)
        self.assertEqual(faults_at(told, "t", 0, state), tuple(faults), step)
        self.assertEqual(outcomes_at(told, "t", 0, state), ())

    def test_skip(self):
        self.check("skip", "", "")
        self.check("skip", "held a, r into a.f, ended r", "held a, r into a.f, ended r")

    def test_new(self):
        self.check("new a", "empty a", "held a")
        self.check("new a", "", "held a")
        self.check("new a", "held a, held b, r into a.f, x into a, s into b",
                   "held a, held b, ended r, ended x, s into b")

    def test_touch(self):
        reaching = "held a, r into a.f, s into a, x into a.g, y into a.f, y into b"
        self.check("touch a.f look", reaching, reaching + ", ended r, ended s")
        self.check("touch a.f full", reaching, reaching + ", ended r, ended s, ended y")
        self.check("touch a look", reaching, reaching + ", ended r, ended s")
        self.check("touch a full", reaching, reaching + ", ended r, ended s, ended x, ended y")
        self.check("touch p.g full", "held p, s into p.f, r into p.g, x into p", "held p, s into p.f, r into p.g, "
                   "x into p, ended r, ended x")

    def test_need(self):
        self.check("touch a full", "empty a", "empty a", [("empty", "a")])
        self.check("touch r look", "held r, ended r", "held r, ended r", [("ended", "r")])
        self.check("touch r look", "empty r, ended r, held r", "empty r, ended r, held r",
                   [("empty", "r"), ("ended", "r")])
        self.check("drop a", "empty a", "empty a")
        self.check("drop r", "held r, ended r", "empty r")

    def test_copy_and_take(self):
        self.check("copy a = b.f", "held a, held b, r into b.f, x into b.f, s into a.g, y into a",
                   "held a, held b, r into b.f, x into b.f, s into a.g, y into a".replace("s into a.g, y into a",
                   "ended r, ended s, ended y"))
        self.check("take a = b.f", "empty a, held b, r into b.f, x into b, s into b.g",
                   "held a, held b, r into b.f, x into b, s into b.g, ended r, ended x")
        self.check("take a = p", "empty p, ended p", "empty p, ended p, held a", [("empty", "p"), ("ended", "p")])
        self.check("copy a = q.g", "held q, ended q, x into q", "held a, held q, ended q, x into q", [("ended", "q")])

    def test_put(self):
        self.check("put a.f = b", "held a, held b, r into b.f, s into a.f, x into a, y into a.g",
                   "held a, empty b, ended r, s into a.f, ended s, x into a, ended x, y into a.g")
        self.check("put a = b", "empty a, empty b", "empty a, empty b", [("empty", "b"), ("empty", "a")])
        self.check("put p.g = b", "held p, p into b.f, held b, r into p", "held p, ended p, empty b, r into p, ended r",
                   [("ended", "p")])

    def test_lend(self):
        self.check("lend r = a.f", "held a", "held a, held r, r into a.f")
        self.check("lend r = a.f", "held a, s into a.f, x into a.g, y into a",
                   "held a, held r, r into a.f, s into a.f, ended s, x into a.g, y into a, ended y")
        self.check("lend x = a.f", "held a, s into a.f, y into a", "held a, held x, x into a.f, s into a.f, ended s, "
                   "y into a")
        self.check("lend r = s.f", "held s, s into a.g, s into b, s from p.g, s from p",
                   "held s, s into a.g, s into b, s from p.g, s from p, held r, r into s.f, r into a.g, r into b.f, "
                   "r from p.g, r from p.f")
        self.check("lend r = s", "held s, s into b, s from p.g", "held s, s into b, s from p.g, held r, r into s, "
                   "r into b, r from p.g")
        self.check("lend r = s", "empty s, ended s, s into a", "empty s, ended s, s into a, held r, r into s, r into a",
                   [("empty", "s"), ("ended", "s")])

    def test_lend_of_what_leads_into_it(self):
        self.check("lend r = s.f", "held s, s into r.g, s into a", "held s, s into a, held r, r into s.f, r into a.f")
        self.check("lend p = p.f", "held p, p from p", "held p, p from p.f")
        self.check("lend r = r.f", "held r, r into a, r into s.g", "held r, r into a.f, r into s.g")
        self.check("lend r = r.f", "held r, s into r.f, x into r.g", "held r, ended s")
        self.check("lend r = r.f", "held r, ended r, r into a", "held r, r into a.f", [("ended", "r")])
        self.check("lend r = a", "held r, held a, s into r, r into b, ended r", "held r, held a, r into a")
        self.check("lend r = s", "held r, held s, r into s.f, ended r", "held s, held r, r into s")

    def test_move(self):
        self.check("move a = b", "held b, held a, r into b.f, s into a, x into b", "held a, empty b, ended r, "
                   "ended s, ended x")
        self.check("move r = s", "held s, s into a.f, s from p.g, x into s, y into a",
                   "empty s, held r, r into a.f, r from p.g, ended x, y into a")
        self.check("move r = s", "held s, ended s, s into r.f, s into a", "empty s, held r, r into a", [("ended", "s")])
        self.check("move x = y", "held y, y into a.f, y from q, r into a", "held y, y into a.f, y from q, held x, "
                   "x into a.f, x from q, r into a")
        self.check("move x = y", "empty y", "empty y, held x", [("empty", "y")])
        self.check("move x = y", "held y, y into x, held x", "held y, held x")
        self.check("move p = r", "held p, p from p, held r, r from p.f, s from p", "held p, p from p.f, empty r, "
                   "s from p")

    def test_drop(self):
        self.check("drop a", "held a, r into a, x into a.f, s into b", "empty a, ended r, ended x, s into b")
        self.check("drop r", "held r, r into a, x into r, s from p", "empty r, s from p")
        self.check("drop p", "held p, p from p, r from p, r into p", "empty p, r from p")


class Calls(unittest.TestCase):
    check = Steps.check

    def test_without_a_result(self):
        self.check("call see(lend a.f, lend b)", "held a, held b, r into a.f, x into a, y into b.g",
                   "held a, held b, r into a.f, ended r, x into a, y into b.g, ended y", outcome=("return",))
        self.check("call eat(move a, move r)", "held a, held r, s into a, x into r", "empty a, empty r, ended s, "
                   "ended x", outcome=("return",))

    def test_faults_of_arguments(self):
        ret = ("return",)
        self.check("call see(lend a, lend a)", "held a", "held a", outcome=ret, faults=[("argument", 0)])
        self.check("call see(lend a.f, lend a.g)", "held a", "held a", outcome=ret)
        self.check("call see(lend a.f, lend a)", "held a", "held a", outcome=ret, faults=[("argument", 0)])
        self.check("call see(move x, lend a)", "held x, held a, x into a.f", "held x, held a, x into a.f, ended x",
                   outcome=ret, faults=[("argument", 0)])
        self.check("call see(lend r, move r)", "held r", "empty r", outcome=ret, faults=[("argument", 0)])
        self.check("call see(lend q, lend a)", "empty q, ended q, empty a", "empty q, ended q, empty a", outcome=ret,
                   faults=[("empty", "q"), ("ended", "q"), ("empty", "a")])
        self.check("call see(lend a, lend a)", "empty a", "empty a", outcome=ret,
                   faults=[("empty", "a"), ("argument", 0)])
        self.check("call eat(move a, lend a)", "held a", "empty a", outcome=ret, faults=[("empty", "a")])
        self.check("call eat(move a, move r)", "held a, held r, r into a.f", "empty a, empty r", outcome=ret,
                   faults=[("ended", "r")])
        self.check("call s = give(lend a, lend a, move a)", "held a", "empty a, held s", outcome=("from", "u", ""),
                   faults=[("argument", 0), ("argument", 1)])

    def test_looks_beside_each_other(self):
        self.check("call x = peek(lend b, lend a, lend a)", "held a, held b", "held a, held b, held x, x into a.g",
                   outcome=("from", "v", "g"))
        self.check("call x = peek(lend a.f, lend a.g, lend a.g)", "held a", "held a, held x, x into a.f",
                   outcome=("from", "u", "g"))

    def test_results_from_a_parameter(self):
        self.check("call r = give(lend s.f, lend b, move a)", "held a, held b, held s, s into b.g, s from p, x into a",
                   "empty a, held b, held s, s into b.g, ended s, s from p, held r, r into b.g, r into s.f, r from p.f, "
                   "ended x", outcome=("from", "u", "g"), faults=[("argument", 0)])
        self.check("call r = give(move s, lend b, move a)", "held a, held b, held s, s into a.g, s from p",
                   "empty a, held b, empty s, held r, r from p.g", outcome=("from", "u", "g"),
                   faults=[("argument", 0)])
        self.check("call x = peek(lend b, move y, lend a)", "held a, held b, held y, y into a, y from q.f",
                   "held a, held b, held y, y into a, y from q.f, held x, x into a.f, x from q.f",
                   outcome=("from", "v", "f"))

    def test_results_that_were_passed(self):
        self.check("call r = give(lend r.f, lend b, move a)", "held r, held b, held a, r into b.g, r from p",
                   "held r, held b, empty a, r into b.g, r from p.f", outcome=("from", "u", "g"),
                   faults=[("argument", 0)])
        self.check("call r = give(move r, lend b, move a)", "held r, held b, held a, s into r, r from p.f",
                   "held r, held b, empty a, ended s, r from p.f", outcome=("from", "u", "g"))
        self.check("call r = give(lend s, lend b, move a)", "held r, held b, held a, held s, s into r.f",
                   "held r, held b, empty a, held s, r into s", outcome=("from", "u", ""))

    def test_results_that_are_owners(self):
        self.check("call a = make(lend a.f)", "held a, r into a.g, x into a", "held a, ended r, ended x",
                   outcome=("own",))
        self.check("call b = make(move r)", "empty b, empty r, ended r", "held b, empty r", outcome=("own",),
                   faults=[("empty", "r"), ("ended", "r")])

    def test_faults_for_a_result_of_a_reference(self):
        told = told_of("call r = give(lend a, lend a, move b)")
        self.assertEqual(faults_at(told, "t", 0, ()), (("argument", 0),))

    def test_each_argument_is_made_behind_the_earlier_ones(self):
        self.check("call x = peek(lend r, lend r, lend r)", "held r, r into a",
                   "held r, r into a, held x, x into r, x into a", outcome=("from", "w", ""))
        self.check("call eat(move a, lend r.f)", "held a, held r, r into a", "empty a, held r, ended r",
                   outcome=("return",), faults=[("ended", "r")])


class Returns(unittest.TestCase):
    def check(self, head, step, ahead, faults, outcomes):
        told, state = program(head, step), facts(ahead)
        self.assertEqual(faults_at(told, "t", 0, state), tuple(faults))
        self.assertEqual(outcomes_at(told, "t", 0, state), tuple(outcomes))

    def test_nothing(self):
        self.check("def t(a own)", "return", "empty a", [], [("return",)])

    def test_owners(self):
        for state in ("", "held a", "held a, held b, r into a"):
            self.check("def t(a own) own: b own, r full", "return a", state, [], [("own",)])
        self.check("def t(a own) own", "return a", "empty a", [("empty", "a")], [("own",)])
        self.check("def t(a own) own", "return a", "empty a, held a", [("empty", "a")], [("own",)])

    def test_references(self):
        head = "def t(p full, q look, a own) look: x look, r full"
        self.check(head, "return x", "held x", [], [])
        self.check(head, "return x", "empty x, ended x, x into a.f", [("empty", "x"), ("ended", "x"), ("result", "x")],
                   [])
        self.check(head, "return x", "x into r, x into q, x into p", [], [])
        self.check(head, "return x", "x from q.f, x from q, x from p.g, r from p", [],
                   [("from", "p", "g"), ("from", "q", ""), ("from", "q", "f")])
        self.check(head, "return x", "x into a, x into a.f, x from p", [("result", "x")], [("from", "p", "")])
        self.check(head, "return x", "r into a, x into r", [], [])

    def test_example(self):
        self.assertEqual(outcomes_at(LAST, "last", 2, (("from", "p", "p", "next"), ("held", "p"))),
                         (("from", "p", "next"),))


class Examples(unittest.TestCase):
    def test_keep_and_late(self):
        first = state_behind(KEEP, "keep", 0, start_state(KEEP, "keep"))
        state = state_behind(KEEP, "keep", 2, state_behind(KEEP, "keep", 1, first))
        self.assertEqual(state, facts("ended b, held a, held b, held c, b into a, c into a, c into b"))
        self.assertEqual(faults_at(KEEP, "keep", 3, state), ())
        self.assertEqual(faults_at(LATE, "late", 2, (("ended", "r"),)), (("ended", "r"),))


class Unions(unittest.TestCase):
    """Each fact is treated by itself."""

    def test_unions(self):
        for seed in range(60):
            rng = random.Random(seed)
            told = random_program(rng, 3, 8)
            for name in told.names:
                for index in range(len(told[name])):
                    one, other = random_state(rng, told, name), random_state(rng, told, name)
                    self.check(told, name, index, one, other, tuple(sorted({*one, *other})))

    def check(self, told, name, index, one, other, both):
        step = told[name][index][0]
        for action in (faults_at, outcomes_at):
            found = action(told, name, index, both)
            self.assertEqual(len(set(found)), len(found))
            self.assertEqual({*action(told, name, index, one), *action(told, name, index, other)}, set(found))
        if step[0] == "return":
            return
        for outcome in outcomes_of(told, step[2]) if step[0] == "call" else [None]:
            behind = [state_behind(told, name, index, state, outcome) for state in (one, other, both)]
            self.assertEqual(behind[2], tuple(sorted({*behind[0], *behind[1]})))
            self.assertLessEqual(set(behind[2]), set(facts_of(told, name)))


if __name__ == "__main__":
    unittest.main()
