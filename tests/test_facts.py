"""Facts, states and outcomes, and what is told of them."""

import itertools
import unittest

from loanpairs.base.programs import Program
from loanpairs.core.facts import (
    faults_at, is_fact, is_outcome, is_state, outcomes_at, start_state, state_behind, uses_at,
)
from loanpairs.errors import InvalidNumber, InvalidOperation, InvalidProgram, InvalidState, UnknownName
from tests.helper import KEEP, LAST, LATE, check_errors, check_judge, odd_values, program, wrong_for

# Variables of each kind, as parameters and beside them.
KINDS = {"a": "own", "p": "full", "q": "look", "b": "own", "r": "full", "s": "look"}
MIXED = program(
    "def f(a own, p full, q look) look: b own, r full, s look", "skip -> 0 1", "return s",
    "def g() own: a own", "return a", "def h()", "return", "def k(a own, p full, q look) full", "return p",
)
REFERENCES = [name for name in KINDS if KINDS[name] != "own"]
PARTS = ("", "f", "g")


def all_facts():
    found = [(word, name) for word in ("empty", "held") for name in KINDS]
    found += [("ended", name) for name in REFERENCES]
    for name in REFERENCES:
        for other in KINDS:
            if other != name and not (KINDS[name] == "full" and KINDS[other] == "look"):
                found += [("into", name, other, part) for part in PARTS]
        for other in ("p", "q"):
            if not (KINDS[name] == "full" and KINDS[other] == "look"):
                found += [("from", name, other, part) for part in PARTS]
    return found


def near_facts():
    """Tuples like facts, with each word, name and part, also wrong ones."""
    names = [*KINDS, "f", "z", "", "A", None, 0, True, ("a",), ["a"]]
    words = ["empty", "held", "ended", "into", "from", "return", "own", "argument", "", None, 1, ["empty"]]
    parts = [*PARTS, "h", "a", None, 0, [], ("f",)]
    for word, name in itertools.product(words, names):
        yield (word, name)
        yield (word, name, "a")
        yield (word, name, "a", "f", "f")
        for other, part in itertools.product(names, parts):
            yield (word, name, other, part)


class Facts(unittest.TestCase):
    def test_facts(self):
        wanted = all_facts()
        self.assertEqual(len(wanted), 12 + 4 + 3 * (3 + 3 + 5 + 5) + 3 * (1 + 1 + 2 + 2))
        for fact in wanted:
            check_judge(self, lambda value: is_fact(MIXED, "f", value), fact, True)

    def test_near_facts(self):
        wanted = all_facts()
        for value in near_facts():
            good = value in wanted and not any(isinstance(item, (tuple, list)) for item in value)
            check_judge(self, lambda value: is_fact(MIXED, "f", value), value, good)

    def test_other_values(self):
        for value in [*odd_values(), (), "empty", ["held", "a"], ("held",), ("held", "a", ""), ("h", "e")]:
            check_judge(self, lambda value: is_fact(MIXED, "f", value), value, False)

    def test_facts_are_those_of_the_function(self):
        self.assertIs(is_fact(MIXED, "h", ("held", "a")), False)
        self.assertIs(is_fact(MIXED, "k", ("held", "r")), False)
        self.assertIs(is_fact(MIXED, "k", ("from", "p", "p", "")), True)
        self.assertIs(is_fact(LAST, "last", ("from", "p", "p", "next")), True)
        self.assertIs(is_fact(LAST, "last", ("from", "p", "p", "f")), False)

    def test_errors(self):
        programs = [pair for pair in wrong_for(InvalidProgram) if not isinstance(pair[0], Program)]
        names = wrong_for(UnknownName, "a", "", MIXED["f"])
        for judge in (is_fact, is_state, is_outcome):
            check_errors(self, judge, (MIXED, "f", ("held", "a")), [programs, names])
            check_errors(self, judge, (MIXED, "f", None), [programs[::5], names[::5]])


class States(unittest.TestCase):
    def test_states(self):
        wanted = tuple(sorted(all_facts()))
        for state in ((), wanted, *[wanted[at:at + 2] for at in range(len(wanted))], wanted[::3]):
            check_judge(self, lambda value: is_state(MIXED, "f", value), state, True)

    def test_order(self):
        one, other = ("held", "a"), ("into", "r", "b", "")
        check_judge(self, lambda value: is_state(MIXED, "f", value), (one, other), True)
        for value in ((other, one), (one, one), (one, other, other), (one, other, one), [one, other], {one, other},
                      {one: other}, one, ((one,),), (one, None), (None,), (one, ("held", "z")), (list(one),)):
            check_judge(self, lambda value: is_state(MIXED, "f", value), value, False)

    def test_other_values(self):
        for value in [*odd_values(), "", "held", 0]:
            check_judge(self, lambda value: is_state(MIXED, "f", value), value, False)

    def test_start(self):
        self.assertEqual(start_state(MIXED, "f"), (
            ("empty", "b"), ("empty", "r"), ("empty", "s"), ("from", "p", "p", ""), ("from", "q", "q", ""),
            ("held", "a"), ("held", "p"), ("held", "q"),
        ))
        self.assertEqual(start_state(MIXED, "h"), ())
        self.assertEqual(start_state(MIXED, "g"), (("empty", "a"),))
        self.assertEqual(start_state(LAST, "last"), (("from", "p", "p", ""), ("held", "p")))

    def test_start_errors(self):
        programs = [pair for pair in wrong_for(InvalidProgram) if not isinstance(pair[0], Program)]
        check_errors(self, start_state, (MIXED, "f"), [programs, wrong_for(UnknownName, "a", "", MIXED["f"])])


class Outcomes(unittest.TestCase):
    def test_by_kinds(self):
        candidates = [("return",), ("own",), ("from",), ("from", "p"), ("from", "p", "", ""), ("own", ""), (), "own",
                      ["return"], ["from", "p", ""], ("from", ["p"], ""), ("from", "p", []), ("from", 0, ""),
                      ("into", "p", ""), ("from", "p", None), ("empty", "p"), None, True, MIXED]
        candidates += [("from", name, part) for name in [*KINDS, "z", ""] for part in [*PARTS, "h", "a"]]
        wanted = {
            "f": [("from", name, part) for name in ("p", "q") for part in PARTS],
            "g": [("own",)],
            "h": [("return",)],
            "k": [("from", "p", part) for part in PARTS],
        }
        for name in wanted:
            for value in candidates:
                check_judge(self, lambda value: is_outcome(MIXED, name, value), value, value in wanted[name])
            for value in odd_values():
                check_judge(self, lambda value: is_outcome(MIXED, name, value), value, False)


class Uses(unittest.TestCase):
    def test_each_form(self):
        head = "def t(a own, p full, q look): x own, r full, s look"
        more = ("def g(a look, b full, c look) own", "skip -> 0", "def h(a own, b full) full", "skip -> 0",
                "def k(a look)", "return")
        for step, uses in (
            ("new x", (("x", "", "full"),)),
            ("copy x = a.f", (("a", "f", "look"), ("x", "", "full"))),
            ("copy x = q", (("q", "", "look"), ("x", "", "full"))),
            ("take x = p.g", (("p", "g", "full"), ("x", "", "full"))),
            ("put p.f = a", (("a", "", "full"), ("p", "f", "full"))),
            ("lend r = a.f", (("a", "f", "full"),)),
            ("lend s = a", (("a", "", "look"),)),
            ("lend s = p.g", (("p", "g", "look"),)),
            ("lend r = r.f", (("r", "f", "full"),)),
            ("lend s = s.f", (("s", "f", "look"),)),
            ("move x = a", (("a", "", "full"), ("x", "", "full"))),
            ("move r = p", (("p", "", "full"),)),
            ("move s = q", (("q", "", "look"),)),
            ("touch a.f look", (("a", "f", "look"),)),
            ("touch p full", (("p", "", "full"),)),
            ("drop a", (("a", "", "full"),)),
            ("drop p", ()),
            ("drop s", ()),
            ("skip", ()),
            ("return", ()),
            ("call x = g(lend a.f, lend p, move q)",
             (("a", "f", "look"), ("p", "", "full"), ("q", "", "look"), ("x", "", "full"))),
            ("call r = h(move a, move r)", (("a", "", "full"), ("r", "", "full"))),
            ("call r = h(move a, lend a.f)", (("a", "", "full"), ("a", "f", "full"))),
            ("call k(lend a)", (("a", "", "look"),)),
        ):
            told = program(head, step, "return", *more) if step != "return" else program(head, "skip", step, *more)
            self.assertEqual(uses_at(told, "t", 1 if step == "return" else 0), uses, step)

    def test_returns(self):
        for name, index in (("f", 1), ("g", 0), ("h", 0), ("k", 0)):
            self.assertEqual(uses_at(MIXED, name, index), ())


class Errors(unittest.TestCase):
    """The first error that applies, for what is asked about steps."""

    def setUp(self):
        self.programs = [pair for pair in wrong_for(InvalidProgram) if not isinstance(pair[0], Program)]
        self.names = wrong_for(UnknownName, "a", "", LATE["late"])
        self.numbers = wrong_for(InvalidNumber, 4, 40, "0", ())
        self.states = wrong_for(InvalidState, (("held", "z"),), (("held", "a"), ("held", "a")), [("held", "a")],
                                (("held", "r"), ("held", "a")), (("ended", "a"),), (("into", "r", "a", "f"),))

    def test_uses_at(self):
        check_errors(self, uses_at, (LATE, "late", 0), [self.programs, self.names, self.numbers])

    def test_faults_and_outcomes(self):
        for action in (faults_at, outcomes_at):
            for index in (0, 3):
                check_errors(self, action, (LATE, "late", index, ()),
                             [self.programs, self.names, self.numbers, self.states])

    def test_state_behind(self):
        wrong = [self.programs, self.names, self.numbers, self.states]
        outcomes = [(4, value, InvalidOperation) for value in [*odd_values()[::4], ("return",), ("own",), ()]
                    if value is not None]
        check_errors(self, state_behind, (LATE, "late", 0, (), None), wrong, [*outcomes, (2, 3, InvalidOperation)])

    def test_state_behind_a_call(self):
        told = program("def c(p full, a own): r look", "call r = g(move p)", "return",
                       "def g(p full) look: s look", "lend s = p.val", "return s", fields="next val")
        outcomes = [(4, value, InvalidOperation) for value in [
            None, ("return",), ("own",), ("from", "r", ""), ("from", "p", "f"), ("from", "p"), ["from", "p", ""],
            *odd_values()[::4]]]
        check_errors(self, state_behind, (told, "c", 0, (), ("from", "p", "val")),
                     [self.programs, wrong_for(UnknownName, "p"), wrong_for(InvalidNumber, 2),
                      wrong_for(InvalidState, (("held", "z"),))], [*outcomes, (2, 1, InvalidOperation)])

    def test_states_do_not_change(self):
        state = start_state(KEEP, "keep")
        state_behind(KEEP, "keep", 0, state)
        self.assertEqual(state, start_state(KEEP, "keep"))
        self.assertEqual(state_behind(KEEP, "keep", 0, state), state_behind(KEEP, "keep", 0, state))


if __name__ == "__main__":
    unittest.main()
