"""Contracts by themselves: what they are, their closed form, and what stands for them."""

import itertools
import random
import unittest

from loanpairs.base.functions import Function
from loanpairs.base.programs import Program
from loanpairs.decide.tables import Table
from loanpairs.errors import InvalidContract, InvalidOperation, InvalidProgram, InvalidWord, UnknownName
from loanpairs.use.contracts import Contract, contracts_of
from tests.helper import CACHE, KEEP, LAST, LATE, check_errors, check_raises, odd_values, program, wrong_for
from tests.makers import all_contracts, allowed, closed_by_words, random_contract, random_program

KINDS = ("full", "look", "own")
HEADS = [(kinds, result) for many in range(4) for kinds in itertools.product(KINDS, repeat=many)
         for result in ("", *KINDS)]


def contract(text, *outcomes, fields=("f", "g")):
    """A contract with the kinds and the result in a text like "full look: look"."""
    kinds, _, result = text.partition(":")
    return Contract(fields, tuple(kinds.split()), result.strip(), tuple(outcomes))


def whole(index):
    return ("from", index, "")


class Made(unittest.TestCase):
    def test_examples(self):
        last, get = Contract.of(LAST, "last"), Contract.of(CACHE, "get")
        self.assertEqual(
            [str(last), str(get), last.fits(get), (last | get).outcomes, ("from", 0, "val") in last],
            ["(full) full: 0 0.next", "(full) full: 0.val", False,
             (("from", 0, ""), ("from", 0, "next"), ("from", 0, "val")), False])
        all_of = Contract(("next", "val"), ("full",), "full", (("from", 0, "next"), ("from", 0, "val")))
        self.assertEqual([all_of == (last | get), str(all_of)], [True, "(full) full: 0 0.next 0.val"])

    def test_parts(self):
        told = contract("full look: look", ("from", 1, "g"), ("from", 0, "f"), whole(0))
        self.assertEqual([told.fields, told.kinds, told.result], [("f", "g"), ("full", "look"), "look"])
        self.assertEqual(told.outcomes, (whole(0), ("from", 0, "f"), ("from", 1, "g")))
        self.assertEqual(told.closed, told.outcomes)

    def test_outcomes_that_the_kinds_allow(self):
        for fields in (("f",), ("f", "g"), ("d", "e", "f", "g")):
            some = [("return",), ("own",), *(("from", at, part) for at in range(4) for part in ("", *"defgh"))]
            for kinds, result in HEADS:
                for outcome in some:
                    if outcome in allowed(fields, kinds, result):
                        self.assertEqual(Contract(fields, kinds, result, (outcome,)).outcomes, (outcome,))
                    else:
                        check_raises(self, InvalidContract, Contract, fields, kinds, result, (outcome,))

    def test_order_of_outcomes_and_twice(self):
        outcomes = [whole(0), ("from", 0, "f"), ("from", 1, "")]
        for some in itertools.permutations(outcomes):
            self.assertEqual(contract("full full: full", *some).outcomes, tuple(outcomes))
        check_raises(self, InvalidContract, contract, "full: full", whole(0), whole(0))
        check_raises(self, InvalidContract, contract, ":", ("return",), ("return",))

    def test_wrong_parts(self):
        good = (("f", "g"), ("full", "own"), "full", (("from", 0, "f"),))
        wrong = [
            wrong_for(InvalidContract, (), ("f", "f"), ("f", "call"), tuple("abcde"), ["f", "g"], "f"),
            wrong_for(InvalidContract, ("full", "own", "own", "own"), ("full", ""), ("full", None), ["full"], "full"),
            wrong_for(InvalidContract, "none", "return", ("full",), None, True),
            wrong_for(InvalidContract, ["x"], (("from", 0),), (("from", 0, "f", ""),), (["from", 0, "f"],),
                      (("from", False, "f"),), (("from", -1, "f"),), (("from", 1, "f"),), (("from", "a", "f"),),
                      (("into", 0, "f"),), (("from", 0, "h"),), (("from", 0, None),), (("own",),), (("return",),),
                      (("from", 10 ** 60, "f"),), "from"),
        ]
        check_errors(self, Contract, good, wrong)

    def test_parts_that_do_not_suit_one_another(self):
        check_raises(self, InvalidContract, contract, "full: own", whole(0))
        check_raises(self, InvalidContract, contract, "look: full", whole(0))
        check_raises(self, InvalidContract, contract, "full: ", whole(0))
        check_raises(self, InvalidContract, Contract, ("f",), ("full",), "full", (("from", 0, "g"),))
        self.assertEqual(len(Contract(("f",), (), "full", ())), 0)

    def test_of(self):
        told = program("def t(q look, p full, o own) look: r look", "skip -> 1 3", "lend r = p.g", "return r", "return q")
        self.assertEqual(Contract.of(told, "t").outcomes, (whole(0), ("from", 1, "g")))
        self.assertEqual(str(Contract.of(LATE, "late")), "(own): return")
        self.assertEqual(Contract.of(LAST | CACHE, "get"), Contract.of(CACHE, "get"))
        wrong = [wrong_for(InvalidProgram, but=(LAST,)), wrong_for(UnknownName, "get", "")]
        check_errors(self, Contract.of, (LAST, "last"), wrong)

    def test_contracts_of(self):
        both = contracts_of(LAST | CACHE | LATE)
        self.assertEqual(list(both), ["get", "last", "late"])
        self.assertEqual(both, {name: Contract.of(LAST | CACHE | LATE, name) for name in both})
        both.clear()
        self.assertEqual(len(contracts_of(LAST | CACHE)), 2)
        for value, error in wrong_for(InvalidProgram, but=(LAST,)):
            check_raises(self, error, contracts_of, value)

    def test_by_chance(self):
        for seed in range(40):
            told = random_program(random.Random(seed), 3, 8)
            table = Table(told)
            for name, found in contracts_of(told).items():
                self.assertEqual(found, Contract.of(told, name))
                names = [parameter for parameter, _ in told[name].parameters]
                wanted = sorted(("from", names.index(x[1]), x[2]) if x[0] == "from" else x
                                for x in table.outcomes_of(name))
                self.assertEqual(found.outcomes, tuple(wanted))


class ClosedForm(unittest.TestCase):
    def test_one_field(self):
        for part in ("", "f"):
            told = Contract(("f",), ("look", "full"), "look", (("from", 1, part),))
            self.assertEqual(told.outcomes, (("from", 1, part),))
            self.assertEqual(told.closed, (whole(1), ("from", 1, "f")))

    def test_all_fields(self):
        fields = ("b", "a", "c")
        told = Contract(fields, ("look",), "look", tuple(("from", 0, field) for field in fields))
        self.assertEqual(told.closed, (whole(0), *(("from", 0, field) for field in "abc")))
        near = Contract(fields, ("look",), "look", tuple(("from", 0, field) for field in "ab"))
        self.assertEqual(near.closed, near.outcomes)

    def test_fields_of_different_parameters(self):
        told = contract("full full: full", ("from", 0, "f"), ("from", 1, "g"))
        self.assertEqual(told.closed, told.outcomes)

    def test_the_whole_has_no_fields(self):
        self.assertEqual(contract("full: full", whole(0)).closed, (whole(0),))

    def test_by_words(self):
        rng = random.Random(1)
        for fields in (("f",), ("f", "g"), ("f", "g", "h")):
            for kinds, result in HEADS:
                for _ in range(4):
                    told = random_contract(rng, fields, kinds, result)
                    self.assertEqual(told.closed, closed_by_words(told))


class Compared(unittest.TestCase):
    def pairs(self):
        for fields in (("f",), ("f", "g")):
            for kinds, result in ((("full",), "full"), (("full", "look"), "look"), ((), "own"), (("own",), "")):
                found = list(all_contracts(fields, kinds, result))
                yield from itertools.product(found, found)

    def test_by_the_closed_forms(self):
        for one, other in self.pairs():
            first, second = set(closed_by_words(one)), set(closed_by_words(other))
            self.assertIs(one.fits(other), first <= second)
            self.assertIs(one == other, first == second)
            self.assertIs(one != other, first != second)
            self.assertEqual((one | other).outcomes, tuple(sorted(first | second)))
            self.assertEqual((one & other).outcomes, tuple(sorted(first & second)))
            self.assertEqual([len(one), bool(one)], [len(first), first != set()])
            self.assertEqual([one.fits(other) and other.fits(one)], [one == other])

    def test_other_fields_kinds_and_results(self):
        told = contract("full look: look", whole(0))
        for other in (contract("full look: look", whole(0), fields=("g", "f")),
                      contract("full look: look", whole(0), fields=("f",)), contract("full full: look", whole(0)),
                      contract("full: look", whole(0)), contract("full look: full", whole(0)),
                      contract("look full: look", whole(0))):
            self.assertIs(told == other, False)
            for action in (told.fits, lambda value: told | value, lambda value: told & value):
                check_raises(self, InvalidOperation, action, other)

    def test_other_values(self):
        told = contract(": own")
        for value in odd_values():
            for action in (told.fits, lambda value: told | value, lambda value: told & value):
                check_raises(self, InvalidOperation, action, value)
            self.assertIs(told == value, False)
            self.assertIs(told != value, True)
            self.assertIs(value in told, False)

    def test_in(self):
        told = contract("full full: full", ("from", 0, "f"), ("from", 0, "g"), ("from", 1, "f"))
        self.assertEqual([whole(0) in told, whole(1) in told, ("from", 1, "f") in told], [True, False, True])
        for value in (("from", False, ""), ("from", True, "f"), ["from", 0, ""], ("from", 0), ("return",), "from", 0):
            self.assertIs(value in told, False)
        self.assertIs(("own",) in contract("full: own", ("own",)), True)
        self.assertIs(("own",) in contract("full: own"), False)

    def test_not_iterated(self):
        with self.assertRaises(TypeError):
            iter(contract(": own"))

    def test_texts(self):
        self.assertEqual([str(told) for told in (
            contract("full look: look", ("from", 1, "g"), ("from", 0, "f"), whole(0)), contract(": own", ("own",)),
            contract("own:", ("return",)), contract("full: full"), contract(":"), contract("look own full: own"),
            Contract(("f",), ("full",), "look", (("from", 0, "f"),)),
        )], ["(full, look) look: 0 0.f 1.g", "() own: own", "(own): return", "(full) full: never", "(): never",
             "(look, own, full) own: never", "(full) look: 0 0.f"])

    def test_arguments_stay(self):
        one, other = contract("full: full", ("from", 0, "f")), contract("full: full", ("from", 0, "g"))
        self.assertEqual([str(one | other), str(one & other), one.fits(other)],
                         ["(full) full: 0 0.f 0.g", "(full) full: never", False])
        self.assertEqual([str(one), str(other)], ["(full) full: 0.f", "(full) full: 0.g"])


class Standing(unittest.TestCase):
    """The function that a contract makes."""

    def check(self, told, called):
        function = told.function(called)
        self.assertIsInstance(function, Function)
        self.assertEqual(function.called, called)
        self.assertEqual(function.parameters, tuple(zip("abc", told.kinds)))
        self.assertEqual(function.result, told.result)
        alone = Program(told.fields, (function,))
        self.assertIs(Table(alone).is_sound, True)
        self.assertEqual(Contract.of(alone, called), told)

    def test_all_kinds(self):
        rng = random.Random(2)
        for fields in (("f",), ("f", "g"), ("val", "next", "a", "r")):
            for kinds, result in HEADS:
                outcomes = allowed(fields, kinds, result)
                some = [random_contract(rng, fields, kinds, result) for _ in range(2)]
                for told in (Contract(fields, kinds, result, ()), Contract(fields, kinds, result, tuple(outcomes)),
                             *(Contract(fields, kinds, result, (outcome,)) for outcome in outcomes[:3]), *some):
                    self.check(told, rng.choice(["a", "b", "r", "g", "last", "abcdefgh"]))

    def test_wrong_names(self):
        for value, error in wrong_for(InvalidWord, "", "call", "abcdefghi"):
            check_raises(self, error, contract("full: full", whole(0)).function, value)


class Sound(unittest.TestCase):
    def test_examples_of_other_programs(self):
        self.assertEqual([str(contracts_of(told)[told.names[0]]) for told in (LAST, CACHE, LATE, KEEP)],
                         ["(full) full: 0 0.next", "(full) full: 0.val", "(own): return", "(own): return"])


if __name__ == "__main__":
    unittest.main()
