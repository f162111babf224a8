"""Projects: changes, news, what is asked of them, undo and redo, and twins."""

import itertools
import random
import unittest

from loanpairs.base.functions import Function
from loanpairs.base.programs import Program
from loanpairs.decide.tables import Table
from loanpairs.errors import (
    InvalidContract, InvalidFunction, InvalidNumber, InvalidOperation, InvalidWord, NothingToUndo, Refused, TooMany,
    UnknownName,
)
from loanpairs.project.project import MAX_PINS, Project
from loanpairs.use.contracts import Contract
from tests.helper import CACHE, KEEP, LAST, LATE, check_errors, check_raises, odd_values, show, wrong_for
from tests.makers import random_contract, random_function, random_head
from tests.model import Model

FIELDS = ("next", "val")
WORDS = ("put", "remove", "assume", "pin", "unpin")
ANY_PART = Contract(FIELDS, ("full",), "full", (("from", 0, "next"), ("from", 0, "val")))
USE = Function.from_lines("def use(a own): r full", "call r = g(lend a)", "touch a.val full", "touch r full", "return")


def text(*lines):
    return Function.from_lines(*lines)


def contract(kinds, result, *outcomes, fields=FIELDS):
    return Contract(fields, kinds, result, outcomes)


def next_only():
    return contract(("full",), "full", ("from", 0, "next"))


def all_of(project):
    """All that can be asked of a project."""
    names = [*project.functions, *project.assumed]
    told = [project.fields, project.functions, project.assumed, project.pins, str(project), len(project), list(project)]
    told += [(name, str(project.contract(name))) for name in names]
    told += [(name, project.states_of(name), project.faults_of(name)) for name in project]
    return show(told)


def full():
    """A project with functions, assumed contracts and pins, and changes to undo and to redo."""
    project = Project(*FIELDS)
    project.assume("g", next_only())
    project.put(USE)
    project.put(LAST["last"])
    project.pin(("sound", "use"))
    project.pin(("within", "g", ANY_PART))
    project.remove("last")
    project.undo()
    return project


class Examples(unittest.TestCase):
    def test_examples(self):
        project = Project("next", "val")
        self.assertEqual(
            [project.assume("g", ANY_PART), project.put(USE), project.faults_of("use"),
             project.trial(("put", LAST["last"]), ("remove", "use"))],
            [(("g", "new"),), (("use", "new"),), ((2, ("ended", "r")),), ((("last", "new"),), (("use", "gone"),))])
        self.assertEqual(
            [project.assume("g", next_only()), project.faults_of("use"), project.pin(("sound", "use")), project.undo(many=2)],
            [(("g", "contract"), ("use", "facts")), (), (), (("g", "contract"), ("use", "facts"))])


class Made(unittest.TestCase):
    def test_fields(self):
        self.assertEqual(Project("f").fields, ("f",))
        self.assertEqual(Project(*FIELDS).fields, FIELDS)
        for given in ((), ("f", "f"), tuple("abcde"), ("call",), ("",), (("f", "g"),), ("f", 1), ("f", None)):
            check_raises(self, InvalidWord, Project, *given)
        for value in odd_values():
            if value != "def":
                check_raises(self, InvalidWord, Project, value)
                check_raises(self, InvalidWord, Project, "f", value)

    def test_empty(self):
        project = Project("f", "g")
        self.assertEqual([project.functions, project.assumed, project.pins, len(project), list(project), str(project)],
                         [{}, {}, (), 0, [], "project of 0 functions, 0 assumed, 0 pins"])
        check_raises(self, InvalidOperation, project.whole)
        self.assertEqual(MAX_PINS, 10)

    def test_asked(self):
        project = full()
        self.assertEqual(list(project.functions), ["last", "use"])
        self.assertEqual([project.functions["use"], project["use"], project.assumed], [USE, USE, {"g": next_only()}])
        self.assertEqual(project.pins, (("sound", "use"), ("within", "g", ANY_PART)))
        self.assertEqual([list(project), len(project), "use" in project, "g" in project, USE in project],
                         [["last", "use"], 2, True, False, False])
        self.assertEqual(str(project), "project of 2 functions, 1 assumed, 2 pins")
        self.assertEqual([str(project.contract(name)) for name in ("g", "last", "use")],
                         ["(full) full: 0.next", "(full) full: 0 0.next", "(own): return"])
        self.assertEqual(project.states_of("last"), Table(LAST)["last"][0])
        self.assertEqual(project.faults_of("last"), ())
        for value in [*odd_values(), "g"]:
            self.assertIs(value in project, False)
            check_raises(self, UnknownName, lambda at: project[at], value)
        for value, error in wrong_for(UnknownName, "", "lasts"):
            self.assertIs(check_raises(self, error, project.contract, value).wanted, value)
        for value, error in wrong_for(UnknownName, "g"):
            for action in (project.states_of, project.faults_of):
                self.assertIs(check_raises(self, error, action, value).wanted, value)

    def test_what_is_returned_is_the_callers(self):
        project = full()
        before = all_of(project)
        project.functions.clear()
        project.assumed["h"] = None
        self.assertEqual(all_of(project), before)

    def test_lines_that_are_not_reached(self):
        project = Project("f")
        project.assume("g", contract((), "", fields=("f",)))
        project.put(text("def f(): a own", "call g()", "touch a look", "return"))
        self.assertEqual([project.states_of("f"), project.faults_of("f")], [((("empty", "a"),), None, None), ()])
        project.assume("g", contract((), "", ("return",), fields=("f",)))
        self.assertEqual(project.faults_of("f"), ((1, ("empty", "a")),))
        self.assertEqual(str(project.contract("f")), "(): return")

    def test_whole(self):
        project = Project(*FIELDS)
        for function in (LATE["late"], LAST["last"], CACHE["get"]):
            project.put(function)
        self.assertEqual(project.whole(), LAST | CACHE | LATE)
        project.assume("h", ANY_PART)
        check_raises(self, InvalidOperation, project.whole)
        project.remove("h")
        self.assertEqual(project.whole(), LAST | CACHE | LATE)

    def test_equal(self):
        one, other = full(), full()
        self.assertEqual(one, other)
        self.assertIs(one != other, False)
        other.undo()
        self.assertNotEqual(one, other)
        self.assertEqual(one.twin(), one)
        self.assertNotEqual(Project("f", "g"), Project("g", "f"))
        for value in [*odd_values(), LAST]:
            self.assertIs(one == value, False)
            self.assertIs(one != value, True)

    def test_equal_functions_and_contracts(self):
        one = full()
        for change in (("put", CACHE["get"]), ("put", LAST["last"].with_line(0, ("skip",), 2)), ("remove", "last"),
                       ("assume", "h", ANY_PART), ("assume", "g", contract(("full",), "full"))):
            other = full()
            self.assertEqual(one, other)
            getattr(other, change[0])(*change[1:])
            self.assertNotEqual(one, other)

    def test_equal_pins_in_the_same_order(self):
        one, other = full(), full()
        for project in (one, other):
            project.put(CACHE["get"])
        pins = [("sound", "get"), ("unmarked", "get")]
        for pin in pins:
            one.pin(pin)
        for pin in pins[::-1]:
            other.pin(pin)
        self.assertNotEqual(one, other)

    def test_equal_whatever_the_way_there(self):
        """Histories have no effect, and contracts are equal by their closed forms."""
        one, other = Project("f"), Project("f")
        one.assume("g", contract(("full",), "full", ("from", 0, ""), fields=("f",)))
        other.put(text("def g(p full)", "return"))
        other.assume("g", contract(("full",), "full", ("from", 0, "f"), fields=("f",)))
        self.assertEqual(one, other)


class Changes(unittest.TestCase):
    def test_news(self):
        project = Project(*FIELDS)
        again = text("def last(p full) full: r full", "skip -> 1 2", "lend p = p.next -> 1 2", "return p")
        never = text("def last(p full) full", "skip -> 0")
        user = text("def u(a own): r full", "call r = last(lend a)", "touch r full", "return")
        for change, news in (
            (("put", LAST["last"]), (("last", "new"),)), (("put", user), (("u", "new"),)),
            (("put", LAST["last"]), ()), (("put", again), (("last", "facts"),)),
            (("put", never), (("last", "contract"), ("u", "contract"))),
            (("put", LAST["last"].with_line(1, ("lend", "p", "p", "val"), 1, 2)), (("last", "contract"), ("u", "contract"))),
            (("put", LAST["last"]), (("last", "contract"), ("u", "facts"))),
            (("pin", ("sound", "u")), ()), (("unpin", ("sound", "u")), ()), (("remove", "u"), (("u", "gone"),)),
            (("remove", "last"), (("last", "gone"),)),
        ):
            self.assertEqual(project.trial(change), (news,))
            self.assertEqual(getattr(project, change[0])(*change[1:]), news)

    def test_a_function_in_the_place_of_a_contract(self):
        project = Project(*FIELDS)
        project.assume("last", contract(("full",), "full", ("from", 0, "next"), ("from", 0, "")))
        self.assertEqual(project.put(LAST["last"]), (("last", "facts"),))
        self.assertEqual([project.assumed, list(project)], [{}, ["last"]])
        self.assertEqual(project.assume("last", Contract.of(LAST, "last")), (("last", "facts"),))
        self.assertEqual([list(project.assumed), list(project)], [["last"], []])
        self.assertEqual(project.put(CACHE["get"].renamed({"m": "p", "r": "q"})), (("get", "new"),))
        self.assertEqual(project.assume("get", ANY_PART), (("get", "contract"),))
        project.assume("h", contract((), "", ("return",)))
        self.assertEqual(project.put(text("def h()", "return")), (("h", "facts"),))
        self.assertEqual(project.assume("h", contract((), "", ("return",))), (("h", "facts"),))

    def test_equal_contracts_with_other_outcomes(self):
        """An assumed contract with an equal one in its place: no news, but its own outcomes are told."""
        project = Project(*FIELDS)
        project.assume("g", ANY_PART)
        other = contract(("full",), "full", *ANY_PART.closed)
        self.assertEqual(project.assume("g", other), ())
        self.assertEqual(project.contract("g").outcomes, other.outcomes)
        self.assertEqual(project.undo(), ())
        self.assertEqual(project.contract("g").outcomes, ANY_PART.outcomes)

    def test_calls_and_parts_that_do_not_suit(self):
        project = full()
        before = all_of(project)
        for change in (
            ("put", text("def h(p full)", "touch p.left full", "return")), ("put", text("def h()", "call nobody()", "return")),
            ("put", text("def h(p look): r full", "call r = g(lend p)", "return")), ("put", text("def h(p full)", "call use(lend p)", "return")),
            ("put", text("def g(p look) look", "return p")), ("put", text("def g(p full)", "return")), ("remove", "g"),
            ("assume", "g", contract(("full", "full"), "full")), ("assume", "g", contract(("full",), "look")),
            ("put", text("def use(a own) own", "call use(move a)", "return a")), ("assume", "use", contract(("own",), "")),
            ("remove", "use"),
        ):
            check_raises(self, InvalidOperation, project.trial, change)
            check_raises(self, InvalidOperation, getattr(project, change[0]), *change[1:])
            self.assertEqual(all_of(project), before)
        self.assertEqual(project.redo(), (("last", "gone"),))

    def test_wrong_values(self):
        project = full()
        functions = [(value, error) for value, error in wrong_for(InvalidFunction) if not isinstance(value, Function)]
        check_errors(self, lambda value: project.trial(("put", value)), (USE,), [functions])
        for value, error in functions:
            check_raises(self, error, project.put, value)
        for value, error in wrong_for(UnknownName, "", "lasts"):
            self.assertIs(check_raises(self, error, project.remove, value).wanted, value)
        contracts = wrong_for(InvalidContract, Contract(("val", "next"), (), "", ()), Contract(("next",), (), "", ()))
        check_errors(self, project.twin().assume, ("h", next_only()), [wrong_for(InvalidWord, "", "call"), contracts],
                     [(0, "use", InvalidOperation)])
        self.assertEqual(all_of(project), all_of(full()))

    def test_twelve_names(self):
        project = Project("f")
        for at, name in enumerate("abcdefghijkl"):
            news = project.put(text(f"def {name}()", "return")) if at % 2 else project.assume(name, contract((), "", fields=("f",)))
            self.assertEqual(news, ((name, "new"),))
        before = all_of(project)
        for change in (("put", text("def m()", "return")), ("assume", "m", contract((), "", fields=("f",))),
                       ("put", text("def m()", "call nobody()", "return"))):
            self.assertEqual(check_raises(self, TooMany, getattr(project, change[0]), *change[1:]).limit, 12)
            self.assertEqual(check_raises(self, TooMany, project.trial, change).limit, 12)
        self.assertEqual(all_of(project), before)
        self.assertEqual(project.put(text("def a()", "return")), (("a", "contract"),))
        self.assertEqual(project.assume("b", contract((), "", fields=("f",))), (("b", "contract"),))
        project.remove("c")
        self.assertEqual(project.put(text("def m()", "return")), (("m", "new"),))

    def test_in_each_order(self):
        """The same functions and contracts come to the same project in each order that suits."""
        lines = {"f": ("def f(a own): r full", "call r = g(lend a)", "call r = h(lend r)", "touch r full", "return"),
                 "g": ("def g(p full) full", "skip -> 1 3", "call p = h(lend p.next)", "call p = g(move p)", "return p"),
                 "h": ("def h(p full) full", "lend p = p.val", "return p")}
        whole = Program.from_lines("fields next val", *[line for name in lines for line in lines[name]])
        for names in itertools.permutations(lines):
            project = Project(*FIELDS)
            for name in "gh":
                project.assume(name, contract(("full",), "full"))
            for name in names:
                project.put(text(*lines[name]))
            self.assertEqual(project.whole(), whole)
            for name in lines:
                self.assertEqual(project.states_of(name), Table(whole)[name][0])
                self.assertEqual(project.contract(name), Contract.of(whole, name))
                self.assertEqual(project.faults_of(name), tuple((at, x) for other, at, x in Table(whole).faults if other == name))

    def test_a_call_of_a_name_that_comes_later(self):
        project = Project("f")
        caller = text("def f()", "call g()", "return")
        check_raises(self, InvalidOperation, project.put, caller)
        project.assume("g", contract((), "", fields=("f",)))
        self.assertEqual(project.put(caller), (("f", "new"),))
        self.assertEqual(project.put(text("def g()", "return")), (("f", "contract"), ("g", "contract")))


class Trials(unittest.TestCase):
    def test_none_and_several(self):
        project = full()
        before = all_of(project)
        self.assertEqual(project.trial(), ())
        self.assertEqual(project.trial(("remove", "last"), ("put", LAST["last"]), ("unpin", ("sound", "use")), ("remove", "use"),
                                       ("unpin", ("within", "g", ANY_PART)), ("remove", "g")),
                         ((("last", "gone"),), (("last", "new"),), (), (("use", "gone"),), (), (("g", "gone"),)))
        self.assertEqual(all_of(project), before)
        self.assertEqual(project.redo(), (("last", "gone"),))

    def test_wrong_forms(self):
        project = full()
        forms = [(), ("put",), ("put", USE, USE), ("undo",), ("assume", "g"), ("assume", "g", next_only(), 1), ["put", USE],
                 ("remove",), ("remove", "a", "b"), ("pin",), ("pin", "sound", "use"), ("unpin",), ("whole",), "put", ("trial",),
                 (USE, "put"), ("Put", USE), ("twin",), (1, 2), (None,), ("redo", 1), (["put"], USE)]
        good = ("put", USE)
        for value in [*odd_values(), *forms]:
            for changes in ((value,), (good, value), (value, good), (("put", 3), value), (value, ("put", 3))):
                check_raises(self, InvalidOperation, project.trial, *changes)

    def test_the_error_of_the_first_one_that_fails(self):
        project = full()
        before = all_of(project)
        self.assertEqual(check_raises(self, UnknownName, project.trial, ("put", USE), ("remove", 3), ("put", 4)).wanted, 3)
        check_raises(self, InvalidFunction, project.trial, ("put", 4), ("remove", 3))
        check_raises(self, InvalidWord, project.trial, ("assume", 3, 4))
        check_raises(self, InvalidOperation, project.trial, ("pin", 7), ("put", 4))
        claim = check_raises(self, Refused, project.trial, ("remove", "last"), ("assume", "g", ANY_PART), ("put", 4)).claim
        self.assertEqual(claim, ("sound", "use"))
        self.assertEqual(all_of(project), before)
        self.assertEqual(project.redo(), (("last", "gone"),))


class Histories(unittest.TestCase):
    def test_none_one_several_and_too_many(self):
        project = full()
        states = [all_of(project)]
        for many in range(5):
            project.undo()
            states.append(all_of(project))
        self.assertEqual(all_of(project), all_of(Project(*FIELDS)))
        for many in (1, 2, 10 ** 60 - 1):
            self.assertEqual(check_raises(self, NothingToUndo, lambda: project.undo(many=many)).many, many)
        self.assertEqual([project.undo(many=0), project.redo(many=0)], [(), ()])
        self.assertEqual(all_of(project), states[5])
        self.assertEqual(project.redo(many=3), (("g", "new"), ("last", "new"), ("use", "new")))
        self.assertEqual(all_of(project), states[2])
        self.assertEqual(project.redo(many=3), (("last", "gone"),))
        self.assertEqual(check_raises(self, NothingToUndo, project.redo).many, 1)
        self.assertEqual(check_raises(self, NothingToUndo, lambda: project.undo(many=7)).many, 7)
        self.assertEqual(project.undo(many=6), (("g", "gone"), ("use", "gone")))
        self.assertEqual(check_raises(self, NothingToUndo, lambda: project.redo(many=7)).many, 7)

    def test_news_as_of_one_change(self):
        project = Project(*FIELDS)
        project.put(LAST["last"])
        project.put(LAST["last"].with_line(0, ("skip",), 0))
        project.put(LAST["last"])
        self.assertEqual(project.undo(many=2), ())
        self.assertEqual(project.redo(many=1), (("last", "contract"),))

    def test_wrong_numbers(self):
        project = full()
        before = all_of(project)
        for value in [*odd_values(), -1, "1", 1.5]:
            for action in (project.undo, project.redo):
                error = check_raises(self, InvalidNumber, lambda given: action(many=given), value)
                self.assertIs(error.given, value)
        self.assertEqual(all_of(project), before)

    def test_changes_of_nothing(self):
        """A change after which all is equal can be taken back, and ends what could be redone."""
        project = full()
        self.assertEqual(project.put(USE), ())
        check_raises(self, NothingToUndo, project.redo)
        self.assertEqual(project.undo(many=6), (("g", "gone"), ("last", "gone"), ("use", "gone")))

    def test_refused_changes(self):
        project = full()
        for change in (("put", 3), ("remove", "zz"), ("remove", "g"), ("assume", "g", ANY_PART), ("assume", "call", ANY_PART),
                       ("pin", ("sound", "use")), ("unpin", ("sound", "last")), ("pin", ("sound", "zz"))):
            with self.assertRaises(Exception):
                getattr(project, change[0])(*change[1:])
        self.assertEqual(project.redo(), (("last", "gone"),))

    def test_undo_alone_loses_nothing(self):
        project = full()
        for _ in range(3):
            project.undo(many=5)
            project.redo(many=5)
        self.assertEqual(project.redo(), (("last", "gone"),))
        self.assertEqual(project.undo(), (("last", "new"),))


class Twins(unittest.TestCase):
    def test_go_on_by_themselves(self):
        one = full()
        other = one.twin()
        self.assertEqual([one == other, all_of(one) == all_of(other)], [True, True])
        self.assertEqual([other.redo(), one.redo()], [(("last", "gone"),)] * 2)
        one.undo(many=6)
        self.assertEqual(len(other), 1)
        other.put(CACHE["get"])
        self.assertEqual([len(one), list(other)], [0, ["get", "use"]])
        self.assertEqual(one.redo(many=6), (("g", "new"), ("use", "new")))
        self.assertEqual(other.undo(many=7), (("g", "gone"), ("get", "gone"), ("use", "gone")))
        check_raises(self, NothingToUndo, one.redo)

    def test_iterating(self):
        project = full()
        self.assertEqual([name for name in project], ["last", "use"])
        self.assertEqual(sorted(project), list(iter(project)))


class Modelled(unittest.TestCase):
    """Projects by chance beside a model of them."""

    def random_change(self, rng, project, heads):
        word = rng.choice(["put"] * 5 + ["assume"] * 3 + ["remove", "pin", "pin", "unpin"])
        head = rng.choice(heads)
        if rng.random() < 0.05:
            head = random_head(rng, head[0])
        kinds = tuple(kind for _, kind in head[1])
        if word == "put":
            return (word, random_function(rng, head, heads[:rng.randint(1, len(heads))], ("f", "g"), 7))
        if word == "assume":
            return (word, head[0], random_contract(rng, ("f", "g"), kinds, head[2]))
        if word == "remove":
            return (word, head[0])
        if word == "unpin" and project.pins:
            return (word, rng.choice(project.pins))
        return (word, rng.choice([("sound", head[0]), ("unmarked", head[0]),
                                  ("within", head[0], random_contract(rng, ("f", "g"), kinds, head[2]))]))

    def both(self, action, other):
        """Does the same to the project and to the model; the error class, or None."""
        try:
            wanted, error = other(), None
        except Exception as caught:
            wanted, error = None, caught
        if error is None:
            self.assertEqual(action(), wanted)
            return None
        found = check_raises(self, error.__class__, action)
        for name in ("wanted", "many", "limit", "claim"):
            if hasattr(error, name):
                self.assertEqual(getattr(found, name), getattr(error, name))
        return error.__class__

    def check(self, project, model):
        tables, pins = model.now
        self.assertEqual([project.functions, project.assumed, project.pins], [tables.functions, tables.assumed, pins])
        self.assertEqual([list(project.functions), list(project.assumed)], [sorted(tables.functions), sorted(tables.assumed)])
        for name in tables.names:
            self.assertEqual(project.contract(name), tables.contract(name))
        for name in tables.functions:
            self.assertEqual(project.states_of(name), tables.states(name))
            self.assertEqual(project.faults_of(name), tables.faults(name))

    def test_by_chance(self):
        counted = {}
        for seed in range(60):
            rng = random.Random(seed)
            project, model = Project("f", "g"), Model("f", "g")
            heads = [random_head(rng, called) for called in "uvwx"]
            for _ in range(30):
                dice = rng.random()
                many = rng.randint(0, 3)
                if dice < 0.1:
                    error = self.both(lambda: project.undo(many=many), lambda: model.undo(many))
                elif dice < 0.2:
                    error = self.both(lambda: project.redo(many=many), lambda: model.redo(many))
                else:
                    change = self.random_change(rng, project, heads)
                    before = all_of(project)
                    if rng.random() < 0.2:
                        self.both(lambda: project.twin().trial(change)[0], lambda: self.copy(model).change(*change))
                        self.assertEqual(all_of(project), before)
                    error = self.both(lambda: getattr(project, change[0])(*change[1:]), lambda: model.change(*change))
                    if error is not None:
                        self.assertEqual(all_of(project), before)
                counted[error] = counted.get(error, 0) + 1
                self.check(project, model)
        for error in (None, InvalidOperation, Refused, NothingToUndo, UnknownName):
            self.assertGreater(counted.get(error, 0), 10, counted)

    def copy(self, model):
        twin = Model(*model.fields)
        twin.now, twin.past, twin.future = model.now, list(model.past), list(model.future)
        return twin


if __name__ == "__main__":
    unittest.main()
