"""Runs gone through with places and ages."""

import random
import unittest

from loanpairs.base.programs import Program
from loanpairs.core.places import MAX_UNFOLDED, Places
from loanpairs.core.walks import Walk
from loanpairs.errors import InvalidOperation, InvalidProgram, InvalidWalk, TooMany, UnknownName
from tests.helper import KEEP, LAST, LATE, check_errors, check_raises, odd_values, program, wrong_for
from tests.makers import random_program, random_walk, returning_walks


def straight(name, many):
    return ((name, tuple((at, None) for at in range(many))),)


def gone(*lines, many=None):
    """The run through so many lines of a function t, or all of them."""
    told = program(*lines)
    return Places(told, straight("t", len(told["t"]) if many is None else many))


def seen(places):
    """Held variables with a text of place and age, like `r 0.f.g 2`."""
    told = []
    for name in places.held:
        root, path = places.place(name)
        told.append(f"{name} {'.'.join([str(root), *path])} {places.age(name)}")
    return ", ".join(told)


class Steps(unittest.TestCase):
    def check(self, lines, many, wanted, ended=(), roots=None, fault=None):
        places = gone(*lines, many=many)
        self.assertEqual([seen(places), places.ended, places.fault], [wanted, tuple(ended), fault])
        if roots is not None:
            self.assertEqual(len(places), roots)

    def test_number_of_roots(self):
        """Each parameter and each new tree has a root, whether or not it is still held."""
        for lines, many, roots in (
            (("def t()", "skip", "return"), 0, 0), (("def t()", "skip", "return"), 2, 0),
            (("def t(): a own", "new a", "return"), 0, 0), (("def t(): a own", "new a", "return"), 1, 1),
            (("def t(p look)", "return"), 0, 1), (("def t(p look, q full, a own)", "return"), 1, 3),
            (("def t(p look): a own", "new a", "drop a", "copy a = p", "return"), 4, 3),
        ):
            places = gone(*lines, many=many)
            self.assertEqual(len(places), roots)
            self.assertIsInstance(len(places), int)
            self.assertIn(f" {roots} roots,", str(places))

    def test_constant(self):
        self.assertEqual(MAX_UNFOLDED, 20000)

    def test_examples(self):
        keep = Places(KEEP, straight("keep", 4))
        self.assertEqual([keep.held, keep.ended, keep.place("c"), keep.age("c"), keep.age("a"), keep.fault],
                         [("a", "b", "c"), ("b",), (0, ()), 2, 0, None])
        walked = Places(LAST, (("last", ((0, None), (1, None), (1, None))),))
        self.assertEqual([walked.place("p"), walked.age("p"), str(walked)],
                         [(0, ("next", "next")), 3, "3 steps, 1 roots, no fault"])

    def test_beginning(self):
        lines = ("def t(p look, a own, q full): b own, r full", "return")
        self.check(lines, 0, "a 1 0, p 0 1, q 2 2", roots=3)
        empty = gone(*lines, many=0)
        self.assertEqual([str(empty), empty.lines, empty.program], ["0 steps, 3 roots, no fault", (("t", ()),),
                                                                     program(*lines)])
        self.check(("def t()", "return"), 0, "", roots=0)

    def test_owners(self):
        lines = ("def t(a own): b own, c own", "copy b = a.f", "take c = a.g", "new b", "put a.f = b", "move b = c",
                 "drop a", "take c = b.f", "return")
        for many, wanted, roots in (
            (1, "a 0 0, b 1 0", 2), (2, "a 0 0, b 1 0, c 2 0", 3), (3, "a 0 0, b 3 0, c 2 0", 4),
            (4, "a 0 0, c 2 0", 4), (5, "a 0 0, b 2 0", 4), (6, "b 2 0", 4), (7, "b 2 0, c 4 0", 5),
        ):
            self.check(lines, many, wanted, roots=roots)

    def test_references(self):
        lines = ("def t(a own): r full, s full, x look, y look", "lend r = a.f", "lend s = r.g", "lend x = s",
                 "move y = x", "lend x = x.f", "drop s", "move s = r", "drop x", "return")
        for many, wanted in (
            (1, "a 0 0, r 0.f 1"), (2, "a 0 0, r 0.f 1, s 0.f.g 2"), (3, "a 0 0, r 0.f 1, s 0.f.g 2, x 0.f.g 3"),
            (4, "a 0 0, r 0.f 1, s 0.f.g 2, x 0.f.g 3, y 0.f.g 4"),
            (5, "a 0 0, r 0.f 1, s 0.f.g 2, x 0.f.g.f 5, y 0.f.g 4"),
            (6, "a 0 0, r 0.f 1, x 0.f.g.f 5, y 0.f.g 4"),
        ):
            self.check(lines, many, wanted, roots=1)
        self.check(lines, 7, "a 0 0, s 0.f 6, x 0.f.g.f 5, y 0.f.g 4", ended=("x", "y"))
        self.check(lines, 8, "a 0 0, s 0.f 6, y 0.f.g 4", ended=("y",))

    def test_uses_end_younger_references(self):
        head = "def t(a own): r full, s full, x look, y look"
        begin = (head, "lend x = a.f", "lend y = a", "lend r = a.g")
        self.check((*begin, "return"), 3, "a 0 0, r 0.g 3, x 0.f 1, y 0 2", ended=("y",))
        self.check((*begin, "touch a.f look", "return"), 4, "a 0 0, r 0.g 3, x 0.f 1, y 0 2", ended=("y",))
        self.check((*begin, "touch a look", "return"), 4, "a 0 0, r 0.g 3, x 0.f 1, y 0 2", ended=("r", "y"))
        self.check((*begin, "touch a full", "return"), 4, "a 0 0, r 0.g 3, x 0.f 1, y 0 2", ended=("r", "x", "y"))
        self.check((*begin, "drop y", "touch r full", "return"), 5, "a 0 0, r 0.g 3, x 0.f 1")
        more = (*begin, "lend s = r.f", "lend x = s", "touch r.g full", "touch r.f look", "touch r full", "return")
        self.check(more, 6, "a 0 0, r 0.g 3, s 0.g.f 4, x 0.g.f 5, y 0 2", ended=("y",))
        self.check(more, 7, "a 0 0, r 0.g 3, s 0.g.f 4, x 0.g.f 5, y 0 2", ended=("s", "y"))
        self.check(more, 8, "a 0 0, r 0.g 3, s 0.g.f 4, x 0.g.f 5, y 0 2", ended=("s", "x", "y"))

    def test_looks_that_were_moved(self):
        lines = ("def t(a own): r full, x look, y look, z look", "lend x = a.f", "lend z = a.f", "lend r = a.g",
                 "move y = x", "touch a.f full", "return")
        self.check(lines, 4, "a 0 0, r 0.g 3, x 0.f 1, y 0.f 4, z 0.f 2")
        self.check(lines, 5, "a 0 0, r 0.g 3, x 0.f 1, y 0.f 4, z 0.f 2", ended=("x", "y", "z"))

    def test_copies_look_and_what_is_taken_is_used_fully(self):
        for word, ended in (("copy", ("r",)), ("take", ("r", "x"))):
            lines = ("def t(a own): b own, r full, x look", "lend x = a.f", "lend r = a.g", f"{word} b = a.f",
                     f"{word} b = a.g", "return")
            self.check(lines, 3, "a 0 0, b 1 0, r 0.g 2, x 0.f 1", ended=tuple(ended[1:]))
            self.check(lines, 4, "a 0 0, b 2 0, r 0.g 2, x 0.f 1", ended=ended)

    def test_places_that_begin_one_another(self):
        lines = ("def t(a own): r full, s full, x look", "lend r = a.f", "lend s = r.g", "touch a.g full",
                 "touch a.f look", "return")
        self.check(lines, 3, "a 0 0, r 0.f 1, s 0.f.g 2")
        self.check(lines, 4, "a 0 0, r 0.f 1, s 0.f.g 2", ended=("r", "s"))

    def test_owners_that_get_another_tree(self):
        for step in ("new a", "copy a = b", "take a = b", "move a = b", "drop a", "put b = a", "call a = g()"):
            lines = ("def t(a own, b own): x look", "lend x = a.f", step, "return",
                     "def g() own: c own", "new c", "return c")
            told = program(*lines)
            inner = (("g", ((0, None), (1, None))),) if "call" in step else ()
            run = (*inner, ("t", ((0, None), (1, 0 if inner else None))))
            self.assertEqual(Places(told, run).ended, ("x",), step)

    def test_order_of_the_roots_and_uses_of_a_move(self):
        self.check(("def t(a own, b own): x look, y look", "lend x = a", "lend y = b.f", "move a = b", "return"), 3,
                   "a 1 0, x 0 1, y 1.f 2", ended=("x", "y"), roots=2)

    def test_the_same_variable_again(self):
        lines = ("def t(p full): q full", "lend p = p.f -> 0 1", "lend q = p", "lend p = q -> 1 3", "return")
        told = program(*lines)
        way = ((0, None), (0, None), (1, None), (2, None), (1, None))
        self.assertEqual(seen(Places(told, (("t", way),))), "p 0.f.f 5, q 0.f.f 6")


class Faults(unittest.TestCase):
    def check(self, lines, many, fault, wanted, ended=(), text=None):
        places = gone(*lines, many=many)
        self.assertEqual([places.fault, seen(places), places.ended], [fault, wanted, tuple(ended)])
        if text is not None:
            self.assertEqual(str(places), text)

    def test_late(self):
        late = Places(LATE, straight("late", 3))
        self.assertEqual([late.fault, late.held, late.ended, str(late)],
                         [("ended", "r"), ("a", "r"), ("r",), "3 steps, 1 roots, fault ended r"])

    def test_first_fault(self):
        head = "def t(a own, p full): b own, c own, r full"
        self.check((head, "put b = c", "return"), 1, ("empty", "c"), "a 0 0, p 1 1", text="1 steps, 2 roots, fault empty c")
        self.check(("def t(a own): r full", "lend r = a.f", "put r.g = a", "return"), 2, ("ended", "r"),
                   "a 0 0, r 0.f 1")
        self.check((head, "take b = c", "return"), 1, ("empty", "c"), "a 0 0, p 1 1")
        self.check((head, "call g(lend b, lend a, move c)", "return", "def g(x full, y full, z own)", "return"), 1,
                   ("empty", "b"), "a 0 0, p 1 1")
        self.check((head, "call g(move a, lend a)", "return", "def g(x own, y full)", "return"), 1,
                   ("empty", "a"), "a 0 0, p 1 1")

    def test_in_the_midst_of_a_step(self):
        """What was used ahead of the fault is as it was ahead of the step."""
        head = "def t(a own): b own, r full, x look"
        self.check((head, "lend r = a.f", "put r = a", "return"), 2, ("ended", "r"), "a 0 0, r 0.f 1")
        self.check((head, "lend x = a", "put b = a", "return"), 2, ("empty", "b"), "a 0 0, x 0 1")
        self.check((head, "lend x = a", "call g(move a, lend b)", "return", "def g(u own, v look)", "return"), 2,
                   ("empty", "b"), "a 0 0, x 0 1", text="2 steps, 1 roots, fault empty b")

    def test_arguments(self):
        head = "def t(a own): b own, x look"
        more = ("return", "def g(u look, v full)", "return")
        self.check((head, "lend x = a", "call g(lend a.f, lend a)", *more), 2, ("argument", 0), "a 0 0, x 0 1",
                   text="2 steps, 1 roots, fault argument 0")
        self.check((head, "lend x = a", "call g(move x, lend a.g)", *more), 2, ("argument", 0), "a 0 0, x 0 1")
        # A look argument stands beside other ones, a full one ahead of them does not.
        more = ("return", "def g(u full, v look)", "return")
        self.check((head, "call g(lend a, lend a)", *more), 1, ("argument", 0), "a 0 0")

    def test_returns(self):
        self.check(("def t(a own) look: x look", "lend x = a", "return x"), 2, ("result", "x"), "a 0 0, x 0 1")
        self.check(("def t(a own) look: x look", "return x"), 1, ("empty", "x"), "a 0 0")
        self.check(("def t(a own) own: x own", "return x"), 1, ("empty", "x"), "a 0 0")
        self.check(("def t(p full) look: x look", "lend x = p", "touch p full", "return x"), 3, ("ended", "x"),
                   "p 0 1, x 0 2", ended=("x",))
        # Where a return has no fault, all is told as it was ahead of it, too.
        self.check(("def t(a own) own: x look", "lend x = a", "return a"), 2, None, "a 0 0, x 0 1",
                   text="2 steps, 1 roots, no fault")

    def test_owners_that_a_function_gets_late(self):
        lines = ("def t(a own) look: b own, x look", "lend x = a", "move b = a", "return x")
        self.check(lines, 3, ("ended", "x"), "b 0 0, x 0 1", ended=("x",))

    def test_no_run(self):
        told = program("def t(): a own", "touch a look", "skip", "return")
        self.assertEqual(Places(told, straight("t", 1)).fault, ("empty", "a"))
        for many in (2, 3):
            check_raises(self, InvalidOperation, Places, told, straight("t", many))

    def test_no_run_in_a_called_walk(self):
        told = program("def t(a own)", "call s(lend a, lend a)", "return", "def s(p full, q look): b own",
                       "touch b look -> 1 2", "return", "return")
        faulty = ("s", ((0, None), (1, None)))
        check_raises(self, InvalidOperation, Places, told, (faulty, ("t", ((0, 0),))))
        places = Places(told, (faulty, ("t", ((0, None),))))
        self.assertEqual([places.fault, str(places)], [("argument", 0), "1 steps, 1 roots, fault argument 0"])
        sane = program("def t(a own)", "call s(lend a, lend a)", "return", "def s(p full, q look): b own",
                       "touch q look -> 1 2", "return", "return")
        places = Places(sane, (faulty, ("t", ((0, 0),))))
        self.assertEqual([places.fault, str(places)], [("argument", 0), "3 steps, 1 roots, fault argument 0"])


class Calls(unittest.TestCase):
    told = program(
        "def t(a own, p full): r full, x look, b own",
        "call r = g(lend a.f, move p)", "call b = m(move a)", "call x = k(lend r, lend b.g)", "call b = m(move b)",
        "return",
        "def g(u full, v full) full", "lend u = u.g -> 1 2", "return u", "return v",
        "def m(o own) own: n own, y look", "lend y = o -> 1 3", "copy n = o -> 2 3", "return n", "return o",
        "def k(u look, v look) look: w look", "move w = v -> 1 2", "return w", "return u",
    )
    shapes = {
        "gu": ("g", ((0, None), (1, None))), "gv": ("g", ((0, None), (2, None))),
        "mn": ("m", ((0, None), (1, None), (2, None))), "mo": ("m", ((0, None), (3, None))),
        "kw": ("k", ((0, None), (1, None))), "ku": ("k", ((0, None), (2, None))),
    }

    def check(self, names, wanted, ended=(), roots=None):
        lines = tuple(self.shapes[name] for name in names)
        way = tuple((at, at) for at in range(len(names)))
        places = Places(self.told, (*lines, ("t", way)))
        self.assertEqual([seen(places), places.ended, places.fault], [wanted, tuple(ended), None])
        self.assertEqual(len(places), roots)

    def test_results_keep_place_and_age(self):
        # p has the age 1, the arguments 2 and 3, and what is lent in g the age 4.
        self.check(["gu"], "a 0 0, r 0.f.g 4", roots=2)
        self.check(["gv"], "a 0 0, r 1 3", roots=2)

    def test_trees_that_are_passed_and_returned(self):
        self.check(["gv", "mo"], "b 0 0, r 1 3", roots=2)
        self.check(["gu", "mo"], "b 0 0, r 0.f.g 4", ended=("r",), roots=2)
        self.check(["gv", "mn"], "b 2 0, r 1 3", roots=3)
        self.check(["gu", "mn"], "b 2 0, r 0.f.g 4", ended=("r",), roots=3)

    def test_results_of_references_that_are_passed(self):
        # g: 2 and 3, and 4 in it; m: 5 for y; k: 6 and 7, and 8 in it.
        self.check(["gv", "mo", "kw"], "b 0 0, r 1 3, x 0.g 8", roots=2)
        self.check(["gv", "mo", "ku"], "b 0 0, r 1 3, x 1 6", roots=2)
        self.check(["gv", "mo", "kw", "mo"], "b 0 0, r 1 3, x 0.g 8", ended=("x",), roots=2)
        self.check(["gv", "mo", "ku", "mn"], "b 2 0, r 1 3, x 1 6", roots=3)

    def test_uses_in_called_functions(self):
        told = program("def t(a own): r full, s full, x look, y look", "lend r = a.f", "lend x = r.g", "lend s = r.f",
                       "call y = g(lend r, lend a.g)", "touch y look", "return",
                       "def g(p full, q full) look: y look", "touch p.f full -> 1 3", "lend y = q", "return y",
                       "lend y = p -> 2")
        begin = ((0, None), (1, None), (2, None))
        for way, wanted in ((((0, None), (1, None), (2, None)), "y 0.g 6"), (((0, None), (3, None), (2, None)), "y 0.f 6")):
            run = (("g", way), ("t", (*begin, (3, 0))))
            places = Places(told, run)
            self.assertEqual(seen(places), f"a 0 0, r 0.f 1, s 0.f.f 3, x 0.f.g 2, {wanted}")
            self.assertEqual(places.ended, ("s", "x"))

    def test_used_again_and_again(self):
        told = program("def t(a own): b own", "call s(lend a) -> 0 1", "return", "def s(p full): b own", "copy b = p",
                       "put p.f = b -> 0 2", "return")
        inner = ("s", ((0, None), (1, None), (0, None), (1, None), (2, None)))
        places = Places(told, (inner, ("t", ((0, 0),) * 5)))
        self.assertEqual([str(places), seen(places)], ["30 steps, 11 roots, no fault", "a 0 0"])

    def test_parameters_stay_what_they_are_in_the_waiting_function(self):
        told = program("def t(p full): q full", "lend q = p.f -> 1 2", "call t(lend q)", "touch q full", "return")
        leaf = ("t", ((0, None), (2, None), (3, None)))
        pairs = [leaf]
        for at in range(5):
            pairs.append(("t", ((0, None), (1, at), (2, None), (3, None))))
        places = Places(told, (*pairs, ("t", ((0, None), (1, 5), (2, None)))))
        self.assertEqual(seen(places), "p 0 1, q 0.f 2")
        self.assertEqual(places.ended, ())


class Sizes(unittest.TestCase):
    told = program("def t()", "skip -> 1 3", "call t()", "call t()", "return", "def s()", "skip -> 0 1", "return",
                   "def u()", "call s() -> 0 1", "return")

    def test_steps(self):
        rounds = ("s", (*[(0, None)] * 1999, (1, None)))
        way = tuple([(0, 0)] * 9)
        places = Places(self.told, (rounds, ("s", (*[(0, None)] * 1989, (1, None))), ("u", (*way, (0, 1)))))
        self.assertEqual(str(places), "20000 steps, 0 roots, no fault")
        lines = (rounds, ("s", (*[(0, None)] * 1990, (1, None))), ("u", (*way, (0, 1))))
        self.assertEqual(check_raises(self, TooMany, Places, self.told, lines).limit, 20000)

    def test_too_many_comes_ahead_of_what_is_no_run(self):
        told = program("def s(): a own", "touch a look -> 0 1", "return", "def u()", "call s() -> 0 1", "return")
        rounds = ("s", (*[(0, None)] * 1999, (1, None)))
        check_raises(self, TooMany, Places, told, (rounds, ("u", ((0, 0),) * 10)))
        check_raises(self, InvalidOperation, Places, told, (rounds, ("u", ((0, 0),) * 9)))

    def test_walks_that_are_used_again_and_again(self):
        pairs = [("t", ((0, None), (3, None)))]
        steps = 2
        while 4 + 2 * steps <= 20000:
            steps = 4 + 2 * steps
            pairs.append(("t", ((0, None), (1, len(pairs) - 1), (2, len(pairs) - 1), (3, None))))
        self.assertEqual(str(Places(self.told, tuple(pairs))), f"{steps} steps, 0 roots, no fault")
        for _ in range(100):
            pairs.append(("t", ((0, None), (1, len(pairs) - 1), (2, len(pairs) - 1), (3, None))))
            check_raises(self, TooMany, Places, self.told, tuple(pairs))

    def test_deep_recursion(self):
        told = program("def t(p full, a own): q full, b own, x look", "lend q = p.f -> 1 3", "take b = a.g",
                       "call t(lend q, move b)", "touch p full -> 4 5", "lend x = p.g", "return")
        leaf = ("t", ((0, None), (3, None), (4, None), (5, None)))
        pairs = [leaf]
        for at in range(1998):
            pairs.append(("t", ((0, None), (1, None), (2, at), (3, None), (5, None))))
        last = ("t", ((0, None), (1, None), (2, 1998), (3, None), (4, None)))
        places = Places(told, (*pairs, last))
        self.assertEqual([seen(places), places.ended], ["a 1 0, p 0 1, q 0.f 2, x 0.g " + str(2 * 2000 + 2), ("q",)])
        self.assertEqual([len(places), len(Walk(told, (*pairs, last)))], [2001, 5])

    def test_long_paths(self):
        told = program("def t(p full)", "lend p = p.f -> 0 1", "call t(lend p)", "return")
        way = ((0, None),) * 1900
        places = Places(told, (("t", way),))
        self.assertEqual(places.place("p"), (0, ("f",) * 1900))
        self.assertEqual(places.age("p"), 1901)


class Asked(unittest.TestCase):
    keep = Places(KEEP, straight("keep", 4))

    def test_meets(self):
        places = gone("def t(a own, b own): r full, s full, x look, y look", "lend r = a.f", "lend s = a.g",
                      "lend x = b", "lend y = r.f", "return", many=4)
        meeting = {("a", "r"), ("a", "s"), ("a", "y"), ("b", "x"), ("r", "y")}
        for one in places.held:
            for other in places.held:
                wanted = one == other or (one, other) in meeting or (other, one) in meeting
                self.assertIs(places.meets(one, other), wanted)

    def test_names_that_are_not_held(self):
        places = gone("def t(a own): b own, r full", "lend r = a", "drop r", "return", many=2)
        for value in [*odd_values(), "b", "r", "t", "", "z"]:
            for action in (places.place, places.age):
                self.assertIs(check_raises(self, UnknownName, action, value).wanted, value)
            self.assertIs(check_raises(self, UnknownName, places.meets, value, "a").wanted, value)
            self.assertIs(check_raises(self, UnknownName, places.meets, "a", value).wanted, value)
            self.assertIs(check_raises(self, UnknownName, places.meets, value, "r").wanted, value)

    def test_equality(self):
        told = program("def t()", "call s()", "return", "def s()", "skip", "return", "def u()", "return")
        inner = ("s", ((0, None), (1, None)))
        one = Places(told, (inner, ("t", ((0, 0),))))
        self.assertEqual(one, Places(told, (("u", ()), inner, inner, ("t", ((0, 1),)))))
        for lines in ((inner,), (("t", ()),), (inner, ("t", ((0, 0), (1, None))))):
            self.assertNotEqual(one, Places(told, lines))
        self.assertNotEqual(Places(LAST, (("last", ()),)), Places(LAST | KEEP, (("last", ()),)))
        for value in [*odd_values(), Walk(told, one.lines), one.lines]:
            self.assertIs(one == value, False)
            self.assertIs(one != value, True)

    def test_no_iteration(self):
        with self.assertRaises(TypeError):
            list(self.keep)

    def test_errors(self):
        programs = [pair for pair in wrong_for(InvalidProgram) if not isinstance(pair[0], Program)]
        lines = wrong_for(InvalidWalk, (), [("late", ())], ("late", ()), (("late", ((1, None),)),))
        late = straight("late", 4)
        check_errors(self, Places, (LATE, straight("late", 3)), [programs, lines], [(1, late, InvalidOperation)])


class Agreement(unittest.TestCase):
    """The same steps are a run with facts and with places, with the same faults and ended references."""

    def test_chance(self):
        found = {"runs": 0, "ended": 0, "calls": 0}
        for seed in range(250):
            rng = random.Random(seed)
            told = random_program(rng, rng.randint(1, 4), rng.randint(4, 16))
            returns = returning_walks(rng, told)
            for name in told.names:
                for _ in range(3):
                    walk = random_walk(rng, told, name, 20, 1, True, returns)
                    if walk.is_run:
                        self.check(walk, found)
        self.assertGreater(min(found.values()), 60, found)

    def check(self, walk, found):
        places = Places(walk.program, walk.lines)
        state = walk.states[-1] if not walk.faults and walk.outcome is None else walk.states[len(walk) - 1]
        if not walk.way:
            state = walk.states[0]
        self.assertEqual(places.fault, walk.faults[0][1] if walk.faults else None)
        self.assertEqual(places.ended, tuple(fact[1] for fact in state if fact[0] == "ended"))
        self.assertEqual(places.held, tuple(fact[1] for fact in state if fact[0] == "held"))
        self.assertEqual(str(places).split(" ")[0], str(walk.steps))
        found["runs"] += 1
        found["ended"] += len(places.ended) > 0
        found["calls"] += walk.steps > len(walk)


if __name__ == "__main__":
    unittest.main()
