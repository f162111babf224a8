"""Pins of projects: what suits, what holds, and the changes that they forbid."""

import unittest

from loanpairs.base.functions import Function
from loanpairs.decide.tables import Table
from loanpairs.errors import InvalidOperation, Refused, TooMany
from loanpairs.project.project import Project
from loanpairs.use.advice import marks
from loanpairs.use.contracts import Contract
from tests.helper import CACHE, LAST, LATE, check_raises, odd_values, program

FIELDS = ("next", "val")
NEXT = Contract(FIELDS, ("full",), "full", (("from", 0, "next"),))
ANY = Contract(FIELDS, ("full",), "full", (("from", 0, "next"), ("from", 0, "val")))
USE = Function.from_lines("def use(a own): r full", "call r = g(lend a)", "touch a.val full", "touch r full", "return")
# Its owner x is held at the end or not; that it is dropped or not depends on g.
MAY = Function.from_lines("def may(): x own", "skip -> 1 2", "call x = n()", "drop x", "return")


def made():
    project = Project(*FIELDS)
    project.assume("g", NEXT)
    project.put(USE)
    project.put(LAST["last"])
    return project


class Suiting(unittest.TestCase):
    def test_each_form(self):
        project = made()
        within = Contract(FIELDS, ("full",), "full", (("from", 0, ""), ("from", 0, "next")))
        pins = (("sound", "use"), ("unmarked", "use"), ("within", "g", ANY), ("within", "last", within), ("sound", "last"),
                ("within", "g", NEXT), ("within", "use", Contract(FIELDS, ("own",), "", (("return",),))))
        for many, pin in enumerate(pins):
            self.assertEqual(project.pins, pins[:many])
            self.assertEqual(project.trial(("pin", pin)), ((),))
            self.assertEqual(project.pin(pin), ())
            self.assertEqual(project.pins[-1], pin)
        self.assertEqual(str(project), "project of 2 functions, 1 assumed, 7 pins")
        for pin in pins[::2]:
            self.assertEqual(project.unpin(pin), ())
        self.assertEqual(project.pins, pins[1::2])
        self.assertEqual(project.undo(many=2), ())
        self.assertEqual(project.pins, (pins[1], pins[3], pins[4], pins[5], pins[6]))

    def test_what_is_none_or_suits_nothing(self):
        project = made()
        project.pin(("sound", "last"))
        project.undo()
        other = Contract(("val", "next"), ("full",), "full", ())
        pins = [("sound",), ("sound", "use", NEXT), ["sound", "use"], ("Sound", "use"), ("sound", "zz"), ("sound", "g"), ("sound", 3),
                ("sound", None), ("sound", ["use"]), ("sound", USE), ("unmarked", "g"), ("unmarked", "zz"), ("unmarked",),
                ("within", "g"), ("within", "g", None), ("within", "g", USE), ("within", "zz", NEXT), ("within", "use", NEXT),
                ("within", "g", other), ("within", "g", Contract(("next",), ("full",), "full", ())),
                ("within", "g", Contract(FIELDS, ("full",), "look", ())), ("within", "g", Contract(FIELDS, ("look",), "full", ())),
                ("within", "g", NEXT, NEXT), ("within", NEXT), ("within", NEXT, "g"), "sound", "sound use", (), (("sound", "use"),)]
        for value in [*odd_values(), *pins]:
            for action in (project.pin, project.unpin, lambda pin: project.trial(("pin", pin))):
                check_raises(self, InvalidOperation, action, value)
        self.assertEqual(project.pins, ())
        self.assertEqual(project.redo(), ())

    def test_there_already_and_not_there(self):
        project = made()
        for pin, equal in ((("sound", "use"), ("sound", "use")), (("within", "g", ANY), ("within", "g", ANY | NEXT))):
            check_raises(self, InvalidOperation, project.unpin, pin)
            project.pin(pin)
            for again in (pin, equal):
                check_raises(self, InvalidOperation, project.pin, again)
            self.assertEqual(project.trial(("unpin", equal), ("pin", equal)), ((), ()))
            check_raises(self, InvalidOperation, project.unpin, ("unmarked", "use"))
        self.assertEqual(project.unpin(("within", "g", ANY & ANY)), ())
        self.assertEqual(project.pins, (("sound", "use"),))

    def test_what_does_not_hold(self):
        project = made()
        project.put(LATE["late"])
        project.put(Function.from_lines("def many(): x own", "skip -> 1 2", "new x", "return"))
        for pin in (("sound", "late"), ("unmarked", "many"), ("within", "last", NEXT),
                    ("within", "g", Contract(FIELDS, ("full",), "full", ())), ("within", "late", Contract(FIELDS, ("own",), "", ()))):
            error = check_raises(self, Refused, project.pin, pin)
            self.assertIs(error.claim, pin)
        self.assertEqual(project.pins, ())

    def test_ten_pins_and_one_more(self):
        project = made()
        pins = [("within", "g", NEXT | Contract(FIELDS, ("full",), "full", some)) for some in (
            (), (("from", 0, ""),), (("from", 0, "val"),))]
        pins += [("sound", "use"), ("sound", "last"), ("unmarked", "use"), ("unmarked", "last")]
        project.put(Function.from_lines("def h()", "return"))
        pins += [("sound", "h"), ("unmarked", "h"), ("within", "h", Contract(FIELDS, (), "", (("return",),)))]
        for pin in pins:
            project.pin(pin)
        self.assertEqual([len(project.pins), project.pins], [10, tuple(pins)])
        project.put(LATE["late"])
        for pin in (("unmarked", "late"), ("sound", "late"), ("within", "late", Contract(FIELDS, ("own",), "", ()))):
            self.assertEqual(check_raises(self, TooMany, project.pin, pin).limit, 10)
        for pin in (("sound", "use"), ("sound", "zz"), None):
            check_raises(self, InvalidOperation, project.pin, pin)
        project.unpin(pins[3])
        self.assertEqual(project.pin(("unmarked", "late")), ())
        self.assertEqual(project.pins, (*pins[:3], *pins[4:], ("unmarked", "late")))


class Forbidding(unittest.TestCase):
    def check_refused(self, project, pin, word, *given):
        before = [project.twin(), project.states_of("use")]
        error = check_raises(self, Refused, getattr(project, word), *given)
        self.assertEqual(error.claim, pin)
        check_raises(self, Refused, project.trial, (word, *given))
        self.assertEqual([project, project.states_of("use")], before)

    def test_sound(self):
        project = made()
        project.pin(("sound", "use"))
        self.check_refused(project, ("sound", "use"), "assume", "g", ANY)
        self.check_refused(project, ("sound", "use"), "put", USE.with_line(1, ("touch", "a", "", "full"), 2))
        self.check_refused(project, ("sound", "use"), "put", Function.from_lines("def g(p full) full", "return p"))
        self.assertEqual(project.put(Function.from_lines("def g(p full) full", "lend p = p.next", "return p")), (("g", "facts"),))
        project.unpin(("sound", "use"))
        self.assertEqual(project.assume("g", ANY), (("g", "contract"), ("use", "facts")))

    def test_within(self):
        project = made()
        project.pin(("within", "g", NEXT))
        self.check_refused(project, ("within", "g", NEXT), "assume", "g", ANY)
        self.assertEqual(project.assume("g", NEXT & ANY), ())
        self.assertEqual(project.assume("g", Contract(FIELDS, ("full",), "full", ())), (("g", "contract"), ("use", "contract")))
        self.check_refused(project, ("within", "g", NEXT), "put", Function.from_lines("def g(p full) full", "return p"))
        self.assertEqual(project.put(Function.from_lines("def g(q full) full", "lend q = q.next", "return q"))[0], ("g", "contract"))

    def test_within_by_calls(self):
        """What another function is changed to can take a function out of its contract."""
        project = made()
        project.put(Function.from_lines("def h(p full) full: r full", "call r = g(lend p)", "return r"))
        project.pin(("within", "h", NEXT))
        self.check_refused(project, ("within", "h", NEXT), "assume", "g", ANY)

    def test_unmarked(self):
        project = made()
        project.assume("n", Contract(FIELDS, (), "own", ()))
        project.put(MAY)
        self.assertEqual(project.pin(("unmarked", "may")), ())
        error = check_raises(self, Refused, project.assume, "n", Contract(FIELDS, (), "own", (("own",),)))
        self.assertEqual(error.claim, ("unmarked", "may"))
        told = program(*MAY.text, "def n() own: a own", "new a", "return a")
        self.assertEqual(marks(told, "may"), ((2, "x"),))
        self.assertEqual(project.put(Function.from_lines("def n() own", "skip -> 0")), (("n", "facts"),))

    def test_the_first_pin_that_would_not_hold(self):
        project = made()
        pins = [("sound", "last"), ("within", "g", NEXT), ("sound", "use")]
        for pin in pins:
            project.pin(pin)
        self.check_refused(project, pins[1], "assume", "g", ANY)
        project.unpin(pins[1])
        self.check_refused(project, pins[2], "assume", "g", ANY)
        project.pin(pins[1])
        self.check_refused(project, pins[2], "assume", "g", ANY)

    def test_what_would_not_suit_comes_ahead(self):
        project = made()
        project.put(Function.from_lines("def h(p full) full", "return p"))
        for pin in (("sound", "last"), ("within", "h", ANY), ("unmarked", "h")):
            project.pin(pin)
        for change in (("remove", "h"), ("remove", "last"), ("assume", "last", ANY), ("assume", "h", ANY),
                       ("put", Function.from_lines("def h(p look) look", "return p")),
                       ("put", Function.from_lines("def h(p own)", "touch p full", "return"))):
            check_raises(self, InvalidOperation, getattr(project, change[0]), *change[1:])
            check_raises(self, InvalidOperation, project.trial, change)
        project.unpin(("unmarked", "h"))
        self.assertEqual(project.assume("h", ANY), (("h", "contract"),))
        check_raises(self, InvalidOperation, project.remove, "h")
        project.unpin(("within", "h", ANY))
        self.assertEqual(project.remove("h"), (("h", "gone"),))

    def test_pins_that_would_not_suit_ahead_of_pins_that_would_not_hold(self):
        project = made()
        project.put(Function.from_lines("def h(p full) full", "return p"))
        for pin in (("sound", "h"), ("within", "h", ANY | Contract(FIELDS, ("full",), "full", (("from", 0, ""),)))):
            project.pin(pin)
        for head, error in (("def h(p full) full: x own", Refused), ("def h(p look) full: x own", InvalidOperation),
                            ("def h(p full, q full) full: x own", InvalidOperation), ("def h(p full) own: x own", InvalidOperation)):
            check_raises(self, error, project.put, Function.from_lines(head, "touch x look", "skip -> 1"))

    def test_names_that_come_again(self):
        project = made()
        project.pin(("sound", "last"))
        project.unpin(("sound", "last"))
        project.remove("last")
        project.put(Function.from_lines("def last(): x own", "touch x look", "return"))
        self.assertEqual(project.faults_of("last"), ((0, ("empty", "x")),))

    def test_pins_that_come_back(self):
        project = made()
        project.pin(("sound", "use"))
        project.unpin(("sound", "use"))
        project.assume("g", ANY)
        self.assertEqual(project.undo(many=2), (("g", "contract"), ("use", "facts")))
        self.assertEqual(project.pins, (("sound", "use"),))
        self.check_refused(project, ("sound", "use"), "assume", "g", ANY)
        self.assertEqual(project.redo(), ())
        self.assertEqual(project.pins, ())
        self.assertEqual(project.redo(), (("g", "contract"), ("use", "facts")))
        self.assertEqual(project.faults_of("use"), ((2, ("ended", "r")),))

    def test_too_many_names_come_ahead(self):
        project = made()
        project.pin(("sound", "use"))
        for name in "abcdefhij":
            project.put(Function.from_lines(f"def {name}()", "return"))
        self.assertEqual(check_raises(self, TooMany, project.put, CACHE["get"]).limit, 12)
        self.check_refused(project, ("sound", "use"), "assume", "g", ANY)

    def test_the_table_with_the_facts_of_contracts(self):
        project = made()
        self.assertEqual(project.states_of("use")[1], (("held", "a"), ("held", "r"), ("into", "r", "a", "next")))
        project.assume("g", ANY)
        self.assertEqual(project.states_of("use")[1], (
            ("held", "a"), ("held", "r"), ("into", "r", "a", ""), ("into", "r", "a", "next"), ("into", "r", "a", "val")))
        project.put(LAST["last"].renamed({"p": "q"}))
        told = Table(LAST.with_function(LAST["last"].renamed({"p": "q"})))
        self.assertEqual(project.states_of("last"), told["last"][0])


if __name__ == "__main__":
    unittest.main()
