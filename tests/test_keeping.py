"""Functions that keep contracts, and functions that tell contracts apart."""

import itertools
import random
import unittest

from loanpairs.base.functions import Function
from loanpairs.base.programs import Program
from loanpairs.decide.papers import is_sound
from loanpairs.errors import InvalidContract, InvalidFunction, InvalidOperation
from loanpairs.use.contracts import Contract, contracts_of, does_keep, is_parting, outcomes_by, parting
from tests.helper import CACHE, LAST, LATE, check_errors, check_judge, check_raises, odd_values, program, wrong_for
from tests.makers import all_contracts, allowed, closed_by_words, random_contract, random_program
from tests.oracle import by_outcomes


def contract(function, *outcomes, fields=("f", "g")):
    """A contract that suits a function."""
    return Contract(fields, tuple(kind for _, kind in function.parameters), function.result, tuple(outcomes))


def told(*lines):
    return Function.from_lines(*lines)


def with_indices(function, outcomes):
    names = [name for name, _ in function.parameters]
    return tuple(sorted(("from", names.index(x[1]), x[2]) if x[0] == "from" else x for x in outcomes))


def with_names(function, outcomes):
    names = [name for name, _ in function.parameters]
    return [("from", names[x[1]], x[2]) if x[0] == "from" else x for x in outcomes]


# What it calls comes from a contract; it goes on with a loan from the result.
USE = told("def use(p full, a own) full: r full", "call r = g(lend p, lend a)", "lend r = r.g", "return r")
G = told("def g(p full, q full) full", "return p")
WHOLE, FIRST, SECOND = ("from", 0, ""), ("from", 0, "f"), ("from", 1, "f")


class Keeping(unittest.TestCase):
    def test_example(self):
        self.assertIs(does_keep(LAST["last"], {"last": Contract.of(LAST, "last")}), True)

    def test_too_small_too_great_and_just_right(self):
        for outcomes, wanted in (((), False), ((WHOLE,), False), ((("from", 0, "next"),), False),
                                 ((WHOLE, ("from", 0, "next")), True),
                                 ((WHOLE, ("from", 0, "next"), ("from", 0, "val")), True),
                                 ((("from", 0, "val"), ("from", 0, "next")), True)):
            given = contract(LAST["last"], *outcomes, fields=("next", "val"))
            self.assertIs(does_keep(LAST["last"], {"last": given}), wanted)

    def test_outcomes_by_the_contracts_of_others(self):
        for outcomes, wanted in (((), ()), ((WHOLE,), (("from", 0, "g"),)), ((FIRST,), (FIRST,)),
                                 ((FIRST, ("from", 0, "g")), (FIRST, ("from", 0, "g")))):
            given = {"use": contract(USE), "g": contract(G, *outcomes)}
            self.assertEqual(outcomes_by(USE, given), wanted)
            self.assertIs(does_keep(USE, given), wanted == ())
            self.assertIs(does_keep(USE, {**given, "use": contract(USE, *wanted)}), True)

    def test_faults_by_the_contracts_of_others(self):
        given = {"use": contract(USE, FIRST, ("from", 0, "g")), "g": contract(G, ("from", 1, ""))}
        self.assertEqual(outcomes_by(USE, given), ())
        self.assertIs(does_keep(USE, given), False)
        given["g"] = contract(G, ("from", 1, ""), FIRST)
        self.assertEqual(outcomes_by(USE, given), (FIRST,))
        self.assertIs(does_keep(USE, given), False)

    def test_closed_form_at_calls(self):
        """A call has the outcomes of the closed form: here the whole, too."""
        caller = told("def use(p full) full: r full", "call r = g(lend p)", "return r")
        one = told("def g(p full) full", "return p")
        fields = (FIRST, ("from", 0, "g"))
        given = {"use": contract(caller, *fields), "g": contract(one, *fields)}
        self.assertEqual(outcomes_by(caller, given), (WHOLE, *fields))
        self.assertIs(does_keep(caller, given), True)
        given = {"use": contract(caller, WHOLE, fields=("f",)), "g": contract(one, FIRST, fields=("f",))}
        self.assertEqual(outcomes_by(caller, given), (WHOLE, FIRST))
        self.assertIs(does_keep(caller, given), True)

    def test_calls_of_itself(self):
        """A call of itself has the outcomes of its contract, not those that it has in a program."""
        again = told("def f(p full) full: r full", "skip -> 1 3", "call r = f(lend p.f)", "return r", "return p")
        self.assertEqual(outcomes_by(again, {"f": contract(again)}), (WHOLE,))
        self.assertEqual(outcomes_by(again, {"f": contract(again, WHOLE)}), (WHOLE, FIRST))
        kept = [len(given) for given in all_contracts(("f", "g"), ("full",), "full") if does_keep(again, {"f": given})]
        self.assertEqual(sorted(kept), [2, 3, 3])
        only = told("def f(p full) full: r full", "call r = f(lend p)", "return r")
        self.assertEqual([outcomes_by(only, {"f": contract(only, *x)}) for x in ((), (FIRST,))], [(), (FIRST,)])
        self.assertIs(does_keep(only, {"f": contract(only, FIRST)}), True)

    def test_other_parameters(self):
        """Outcomes have the indices of the parameters, whatever these are called."""
        turned = told("def f(z look, a look) look: r look", "skip -> 1 2", "return z", "lend r = a.f", "return r")
        self.assertEqual(outcomes_by(turned, {"f": contract(turned)}), (WHOLE, SECOND))

    def test_no_references(self):
        owner = told("def f(a own) own", "return a")
        self.assertEqual(outcomes_by(owner, {"f": contract(owner)}), (("own",),))
        self.assertEqual([does_keep(owner, {"f": contract(owner, *x)}) for x in ((), (("own",),))], [False, True])
        never = told("def f()", "skip -> 0")
        self.assertEqual([outcomes_by(never, {"f": contract(never, *x)}) for x in ((), (("return",),))], [(), ()])
        self.assertIs(does_keep(never, {"f": contract(never, ("return",))}), True)

    def test_more_calls_than_a_program_has_functions(self):
        names = [f"g{one}{other}" for one in "abcdef" for other in "abcdef"]
        lines = [f"call {name}()" for name in names] + ["call f() -> 0 37", "return"]
        many = told("def f()", *lines)
        given = {name: Contract(("f",), (), "", (("return",),)) for name in [*names, "f"]}
        self.assertIs(does_keep(many, given), True)
        given["gff"] = Contract(("f",), (), "", ())
        self.assertEqual(outcomes_by(many, given), ())

    def test_what_has_no_effect(self):
        given = {"zz": Contract(("next", "val"), ("own",), "own", ()), "last": Contract.of(LAST, "last"),
                 "a": Contract(("next", "val"), (), "", (("return",),))}
        before = list(given)
        self.assertIs(does_keep(LAST["last"], given), True)
        self.assertEqual(outcomes_by(LAST["last"], given), (WHOLE, ("from", 0, "next")))
        self.assertEqual(list(given), before)

    def test_wrong_values(self):
        good = {"use": contract(USE), "g": contract(G)}
        odd = [(value, error) for value, error in wrong_for(InvalidFunction) if not isinstance(value, Function)]
        wrong = [{}, {"use": contract(USE)}, {"g": contract(G)}, {**good, 3: contract(G)}, {**good, "": contract(G)},
                 {**good, "call": contract(G)}, {**good, (): contract(G)}, {**good, "h": None}, {**good, "h": G},
                 {**good, "h": contract(G, fields=("g", "f"))}, {**good, "h": contract(G, fields=("f",))},
                 {**good, "use": None}, {**good, "use": contract(G)}, {**good, "g": contract(USE)},
                 {**good, "g": Contract(("f", "g"), ("full", "own"), "full", ())},
                 {**good, "g": Contract(("f", "g"), ("full", "full"), "look", ())},
                 {**good, "g": Contract(("f", "g"), ("full",), "full", ())},
                 {**good, "use": Contract(("f", "g"), ("full", "own"), "look", ())},
                 {**good, "use": Contract(("f", "g"), ("own", "full"), "full", ())},
                 {name: contract({"use": USE, "g": G}[name], fields=("f", "h")) for name in good}, [good], tuple(good)]
        for action in (does_keep, outcomes_by):
            check_errors(self, action, (USE, good), [odd, wrong_for(InvalidContract, *wrong)])

    def test_looks_for_full_arguments(self):
        """The call suits what can be passed for the kinds of the contract."""
        given = {"use": contract(USE), "g": Contract(("f", "g"), ("look", "look"), "full", ())}
        self.assertEqual(outcomes_by(USE, given), ())


class Main(unittest.TestCase):
    """Contracts and soundness."""

    def test_sound_programs_keep_their_own_contracts(self):
        counted = 0
        for seed in range(150):
            made = random_program(random.Random(seed), 3, 9)
            own = contracts_of(made)
            kept = all([does_keep(function, own) for function in made.functions])
            self.assertIs(kept, is_sound(made))
            counted += kept
            for function in made.functions:
                self.assertEqual(outcomes_by(function, own), with_indices(function, self.oracle(made, function, own)[1]))
        self.assertTrue(20 < counted < 130)

    def oracle(self, made, function, contracts):
        outcomes = {name: with_names(made[name], closed_by_words(contracts[name])) for name in made.names}
        return by_outcomes(made, function.called, outcomes)

    def test_what_keeps_some_contracts_is_sound(self):
        kept = 0
        for seed in range(250):
            rng = random.Random(seed)
            made = random_program(rng, 2, 7)
            heads = {name: contract(made[name]) for name in made.names}
            given = {name: random_contract(rng, ("f", "g"), head.kinds, head.result) for name, head in heads.items()}
            if rng.random() < 0.5:
                given = {name: given[name] | Contract.of(made, name) for name in made.names}
            answers = []
            for function in made.functions:
                faults, outcomes = self.oracle(made, function, given)
                self.assertEqual(outcomes_by(function, given), with_indices(function, outcomes))
                within = all(x in closed_by_words(given[function.called]) for x in with_indices(function, outcomes))
                answers.append(does_keep(function, given))
                self.assertIs(answers[-1], not faults and within)
            if all(answers):
                kept += 1
                self.assertIs(is_sound(made), True)
                for name in made.names:
                    self.assertIs(Contract.of(made, name).fits(given[name]), True)
        self.assertGreater(kept, 20)


class Parting(unittest.TestCase):
    heads = [(("full",), "full"), (("full",), "look"), (("own",), "own"), (("look", "own"), ""), ((), ""), ((), "own"),
             (("own", "look"), "look"), (("look", "full"), "look"), (("full", "full"), "full")]

    def check(self, one, other):
        if set(one.outcomes) <= set(closed_by_words(other)):
            check_raises(self, InvalidOperation, parting, one, other)
            return
        main = parting(one, other)
        self.assertEqual([main.called, main.parameters, main.result, main.calls], ["main", (), "", ("g",)])
        self.assertIs(is_parting(one, other, main), True)
        self.assertIs(is_parting(other, one, main), False)
        # As the document tells it, the functions of the contracts can stand for g.
        for given, wanted in ((one, False), (other, True)):
            self.assertIs(is_sound(Program(one.fields, (main, given.function("g")))), wanted)

    def test_all_pairs(self):
        for fields in (("f",), ("f", "g")):
            for kinds, result in self.heads:
                found = list(all_contracts(fields, kinds, result))
                pairs = list(itertools.product(found, found))
                for one, other in random.Random(3).sample(pairs, min(len(pairs), 120)):
                    self.check(one, other)

    def test_more_fields_and_parameters(self):
        rng = random.Random(4)
        for _ in range(150):
            fields = ("h", "f", "k", "g")[:rng.randint(1, 4)]
            kinds = tuple(rng.choice(("full", "look", "own")) for _ in range(3))
            result = rng.choice(("look", "full"))
            other = random_contract(rng, fields, kinds, result)
            near = [x for x in allowed(fields, kinds, result) if x not in other.outcomes]
            for outcome in near:
                self.check(Contract(fields, kinds, result, (outcome,)), other)

    def test_the_whole_and_a_field(self):
        """What reaches by the whole ends by more uses, but what is lent on from it by fewer."""
        heads = Contract(("f", "g"), ("full",), "full", (WHOLE,)), Contract(("f", "g"), ("full",), "full", (FIRST,))
        for one, other in itertools.permutations(heads):
            self.check(one, other)

    def test_wrong_values(self):
        one, other = Contract.of(LAST, "last"), Contract.of(CACHE, "get")
        odd = [(value, error) for value, error in wrong_for(InvalidContract) if not isinstance(value, Contract)]
        for action in (parting, lambda *given: is_parting(*given, None)):
            check_errors(self, action, (one, other), [odd, odd])
        for bad in (Contract(("val", "next"), ("full",), "full", ()), Contract(("next",), ("full",), "full", ()),
                    Contract(("next", "val"), ("look",), "full", ()), Contract(("next", "val"), ("full",), "look", ()),
                    Contract(("next", "val"), (), "full", ()), Contract(("next", "val"), ("full", "own"), "full", ())):
            for action in (parting, lambda *given: is_parting(*given, None)):
                check_raises(self, InvalidOperation, action, one, bad)
                check_raises(self, InvalidOperation, action, bad, one)
        check_raises(self, InvalidOperation, parting, one, one)
        self.assertIs(is_parting(one, one, parting(one, other)), False)


class JudgedParting(unittest.TestCase):
    one = Contract(("f", "g"), ("full", "own"), "full", (WHOLE, FIRST))
    other = Contract(("f", "g"), ("full", "own"), "full", (FIRST,))
    text = ("def main(): a own, b own, r full", "new a", "new b", "call r = g(lend a, move b)", "touch a.g full",
            "touch r look", "return")

    def judge(self, value, wanted, *given):
        one, other = given or (self.one, self.other)
        check_judge(self, lambda judged: is_parting(one, other, judged), value, wanted)

    def near(self, index, line):
        return told(*self.text[:index], line, *self.text[index + 1:])

    def test_made_by_hand(self):
        self.judge(told(*self.text), True)
        self.judge(told(*self.text), False, self.other, self.one)
        self.judge(told(*self.text), False, self.other, self.other)

    def test_near(self):
        for index, line in (
            (0, "def mai(): a own, b own, r full"), (4, "touch a.f full"), (4, "touch a.h full"), (4, "touch a full"),
            (4, "call f()"), (4, "call main()"), (4, "call r = h(lend a, move b)"), (5, "skip"), (2, "skip"),
            (3, "call r = g(lend a, lend b)"), (3, "call r = g(lend a)"), (3, "call g(lend a, move b)"),
            (3, "skip"), (3, "call r = h(lend a, move b)"), (4, "touch b look"), (1, "skip"),
        ):
            self.judge(self.near(index, line), False)
        self.judge(told("def main(p full): a own, b own, r full", *self.text[1:]), False)
        self.judge(told("def main() own: a own, b own, r full", *self.text[1:-1], "new a", "return a"), False)
        self.judge(told("def main(): a own, b own, r look", *self.text[1:]), False)
        self.judge(self.near(6, "skip -> 0"), True)
        self.judge(self.near(5, "touch r.f look"), True)

    def test_a_call_of_itself_that_is_not_reached(self):
        self.judge(told(*self.text[:-1], "return", "call main() -> 5"), False)
        self.judge(told(*self.text[:-1], "return", "call h() -> 5"), False)
        self.judge(told(*self.text[:-1], "return", "touch a.h look -> 5"), False)

    def test_other_values(self):
        for value in odd_values():
            self.judge(value, False)
        self.judge(LAST["last"], False)
        self.judge(LATE["late"], False)

    def test_results_without_references(self):
        for result in ("", "own"):
            some = Contract(("f",), (), result, ((result or "return",),))
            none = Contract(("f",), (), result, ())
            target = "call a = g()" if result else "call g()"
            self.judge(told("def main(): a own, b own", target, "touch b look", "return"), True, some, none)
            self.judge(told("def main(): a own, b own", target, "skip", "return"), False, some, none)
            self.judge(told("def main(): a own, b own", target, "touch b look", "return"), False, none, some)


if __name__ == "__main__":
    unittest.main()
