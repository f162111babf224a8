import itertools
import unittest

from loanpairs.base.functions import is_step, read_step, write_step
from loanpairs.errors import InvalidFunction, ParseError
from tests.helper import check_judge, check_raises, nested, odd_values

# Steps with all that can differ in their forms, and their texts as the document writes them.
TEXTS = (
    (("new", "x"), "new x"),
    (("copy", "x", "a", ""), "copy x = a"),
    (("copy", "x", "a", "next"), "copy x = a.next"),
    (("take", "x", "a", ""), "take x = a"),
    (("take", "x", "a", "x"), "take x = a.x"),
    (("put", "a", "", "y"), "put a = y"),
    (("put", "a", "next", "y"), "put a.next = y"),
    (("lend", "r", "a", ""), "lend r = a"),
    (("lend", "r", "a", "next"), "lend r = a.next"),
    (("lend", "r", "r", ""), "lend r = r"),
    (("lend", "r", "r", "r"), "lend r = r.r"),
    (("move", "x", "y"), "move x = y"),
    (("touch", "a", "", "full"), "touch a full"),
    (("touch", "a", "", "look"), "touch a look"),
    (("touch", "a", "next", "full"), "touch a.next full"),
    (("touch", "a", "next", "look"), "touch a.next look"),
    (("drop", "x"), "drop x"),
    (("call", "", "g", ()), "call g()"),
    (("call", "r", "g", ()), "call r = g()"),
    (("call", "r", "g", (("lend", "a", "next"), ("move", "b"))), "call r = g(lend a.next, move b)"),
    (("call", "", "g", (("lend", "a", ""),)), "call g(lend a)"),
    (("call", "", "g", (("move", "a"),)), "call g(move a)"),
    (("call", "g", "g", (("move", "g"), ("lend", "g", "g"), ("move", "g"))), "call g = g(move g, lend g.g, move g)"),
    (("skip",), "skip"),
    (("return", "y"), "return y"),
    (("return", ""), "return"),
)
# For each word, what may stand behind it: variables that must differ, and other places.
NAMES = ("a", "b", "abcdefgh")
PARTS = ("", "a", "f")
WRONG_NAMES = ("", "A", "full", "abcdefghi", "a.b", "a ", None, True, 0, ("a",), ["a"], {})
WRONG_PARTS = (" ", "A", "full", "abcdefghi", "a.b", ".a", None, False, 0, (), ("a",), [])


class Forms(unittest.TestCase):
    """[0.9] [2.1] [0.5]"""

    def test_each_form(self):
        for step, _ in TEXTS:
            check_judge(self, is_step, step, True)

    def test_another_length(self):
        for step, _ in TEXTS:
            check_judge(self, is_step, step[:-1], False)
            for more in ("", "a", (), None):
                longer = step + (more,)
                check_judge(self, is_step, longer, False)

    def test_another_word(self):
        for step, _ in TEXTS:
            for word in ("", "New", "borrow", "def", "fields", "a", "new ", None, 0, ("new",), ["new"], {}, True):
                check_judge(self, is_step, (word,) + step[1:], False)

    def test_no_tuple(self):
        for step, text in TEXTS:
            check_judge(self, is_step, list(step), False)
            check_judge(self, is_step, text, False)
            check_judge(self, is_step, (step,), False)
            check_judge(self, is_step, (step, (1,)), False)
            check_judge(self, is_step, {step: 1}, False)

    def test_other_values(self):
        check_judge(self, is_step, (), False)
        for value in odd_values() + ["own", []]:
            check_judge(self, is_step, value, False)
            for step, _ in TEXTS:
                for place in range(len(step)):
                    changed = step[:place] + (value,) + step[place + 1:]
                    check_judge(self, is_step, changed, False)

    def test_deep_values(self):
        for kind in ("tuple", "list", "dict"):
            for core in ("skip", ("new", "x"), "new"):
                check_judge(self, is_step, nested(9, kind, core), False)


class Places(unittest.TestCase):
    """[0.9] [2.1]: what stands in each place of each form."""

    def check_names(self, make):
        for name in NAMES:
            check_judge(self, is_step, make(name), True)
        for name in WRONG_NAMES:
            check_judge(self, is_step, make(name), False)

    def check_parts(self, make):
        for part in PARTS:
            check_judge(self, is_step, make(part), True)
        for part in WRONG_PARTS:
            check_judge(self, is_step, make(part), False)

    def check_targets(self, make):
        for name in NAMES + ("",):
            check_judge(self, is_step, make(name), True)
        for name in WRONG_NAMES[1:]:
            check_judge(self, is_step, make(name), False)

    def test_new_and_drop(self):
        self.check_names(lambda name: ("new", name))
        self.check_names(lambda name: ("drop", name))

    def test_copy_take_and_lend(self):
        for word in ("copy", "take", "lend"):
            self.check_names(lambda name: (word, name, "x", "f"))
            self.check_names(lambda name: (word, "x", name, "f"))
            self.check_parts(lambda part: (word, "x", "y", part))

    def test_put(self):
        self.check_names(lambda name: ("put", name, "f", "x"))
        self.check_names(lambda name: ("put", "x", "f", name))
        self.check_parts(lambda part: ("put", "x", part, "y"))

    def test_move(self):
        self.check_names(lambda name: ("move", name, "x"))
        self.check_names(lambda name: ("move", "x", name))

    def test_touch(self):
        self.check_names(lambda name: ("touch", name, "f", "look"))
        self.check_parts(lambda part: ("touch", "x", part, "full"))
        for way in ("own", "", "a", "Full", "full ", None, True, (), ["full"]):
            check_judge(self, is_step, ("touch", "x", "f", way), False)

    def test_call(self):
        self.check_targets(lambda name: ("call", name, "g", ()))
        self.check_names(lambda name: ("call", "x", name, ()))

    def test_arguments(self):
        self.check_names(lambda name: ("call", "x", "g", (("move", name),)))
        self.check_names(lambda name: ("call", "x", "g", (("move", "x"), ("lend", name, "f"))))
        self.check_parts(lambda part: ("call", "", "g", (("lend", "x", part),)))

    def test_forms_of_arguments(self):
        wrong = (
            ("move",), ("move", "a", ""), ("move", "a", "f"), ("lend",), ("lend", "a"), ("lend", "r", "a", "f"), (),
            ("take", "a"), ("new", "a"), ("", "a"), "a", "move a", ["move", "a"], {"move": "a"}, None, ("move a",),
        )
        for argument in wrong:
            check_judge(self, is_step, ("call", "", "g", (argument,)), False)
            check_judge(self, is_step, ("call", "", "g", (("move", "a"), argument)), False)

    def test_numbers_of_arguments(self):
        for many in range(6):
            check_judge(self, is_step, ("call", "", "g", (("move", "a"),) * many), many <= 3)
        for arguments in ([], [("move", "a")], {}, "", None, ("move", "a")):
            check_judge(self, is_step, ("call", "", "g", arguments), False)

    def test_return(self):
        self.check_targets(lambda name: ("return", name))

    def test_variables_that_must_differ(self):
        for part in PARTS:
            for word in ("copy", "take"):
                check_judge(self, is_step, (word, "x", "x", part), False)
            check_judge(self, is_step, ("put", "x", part, "x"), False)
        check_judge(self, is_step, ("move", "x", "x"), False)

    def test_variables_that_can_be_the_same(self):
        for part in PARTS:
            check_judge(self, is_step, ("lend", "x", "x", part), True)
            arguments = (("lend", "x", part), ("move", "x"), ("lend", "x", ""))
            check_judge(self, is_step, ("call", "x", "x", arguments), True)

    def test_variables_parts_and_functions_are_apart(self):
        steps = (
            ("copy", "x", "f", "f"), ("take", "x", "f", "x"), ("put", "x", "y", "y"), ("touch", "x", "x", "full"),
            ("call", "g", "g", (("lend", "g", "g"),)),
        )
        for step in steps:
            check_judge(self, is_step, step, True)


class Texts(unittest.TestCase):
    """[2.1] [0.9]"""

    def test_example(self):
        step = ("call", "r", "g", (("lend", "a", "val"), ("move", "b")))
        self.assertEqual(read_step("call r = g(lend a.val, move b)"), step)

    def test_each_text(self):
        for step, text in TEXTS:
            self.assertEqual(write_step(step), text)
            self.assertEqual(read_step(text), step)

    def test_each_text_is_read_back(self):
        for step in many_steps():
            text = write_step(step)
            again = read_step(text)
            self.assertEqual(again, step)
            self.assertIs(again.__class__, tuple)

    def test_different_steps_have_different_texts(self):
        steps = list(many_steps())
        self.assertEqual(len({write_step(step) for step in steps}), len(set(steps)))

    def test_written_values_that_are_no_steps(self):
        for value in odd_values() + ["skip", (), ("move", "x", "x"), ("return",), ["skip"], (("skip",), (1,))]:
            check_raises(self, InvalidFunction, write_step, value)


class NoTexts(unittest.TestCase):
    """[2.1] [0.4]"""

    def check_no_text(self, text):
        error = check_raises(self, ParseError, read_step, text)
        self.assertIsNone(error.line, text)

    def test_other_blanks(self):
        for _, text in TEXTS:
            for wrong in (" " + text, text + " ", text + "\n", "\n" + text, text.replace(" ", "\n")):
                if wrong != text:
                    self.check_no_text(wrong)
            for at, sign in enumerate(text):
                if sign == " ":
                    self.check_no_text(text[:at] + " " + text[at:])
                elif sign in "=.(),":
                    self.check_no_text(text[:at] + "\n" + text[at:])

    def test_missing_blanks(self):
        for _, text in TEXTS:
            for at, sign in enumerate(text):
                if sign == " ":
                    self.check_no_text(text[:at] + text[at + 1:])

    def test_blanks_at_other_signs(self):
        wrong = (
            "call g( )", "call g ()", "call g(lend a )", "call g( lend a)", "call g(lend a ,lend b)",
            "call g(lend a,lend b)", "copy x = a .f", "copy x = a. f", "touch a .f full", "return  ", "skip  ",
        )
        for text in wrong:
            self.check_no_text(text)

    def test_other_signs(self):
        wrong = (
            "copy x == a", "copy x : a", "copy x = a.f.g", "copy x = a..f", "copy x = a.", "copy x = .f", "lend x = a,f",
            "put a.f = y.f", "put a = y = z", "move x = y.f", "move x", "move x =", "move x = ", "move  = y", "new x.f",
            "new x = y", "new", "new ", "drop x.f", "drop", "touch a", "touch a own", "touch a.f", "touch full",
            "touch a.f full look", "skip;", "skip x", "skip()", "return;", "return x y", "return x.f", "return ()",
            "call g", "call g(", "call g)", "call g(lend a", "call g(lend a))", "call g((lend a)", "call g()()",
            "call r.f = g()", "call r = s = g()", "call  = g()", "call = g()", "call g(a)", "call g(lend)",
            "call g(lend )", "call g(move a.f)", "call g(move)", "call g(take a)", "call g(lend a, )", "call g(, lend a)",
            "call g(lend a; move b)", "call g(lend a = b)", "call r = (lend a)", "call ()", "call", "call ",
            "def f()", "fields a", "borrow x", "x", "", " ", "\n", "skip -> 1", "return -> 1", "Skip", "SKIP",
        )
        for text in wrong:
            self.check_no_text(text)

    def test_more_arguments(self):
        self.assertEqual(len(read_step("call g(lend a, lend b, lend c)")[3]), 3)
        self.check_no_text("call g(lend a, lend b, lend c, lend d)")
        self.check_no_text("call g(" + ", ".join(["move a"] * 1500) + ")")

    def test_names_that_are_none(self):
        for name in ("A", "a1", "full", "own", "skip", "abcdefghi", "-", "a_b", "1"):
            for shape in ("new {}", "copy {} = a", "copy a = {}", "copy a = b.{}", "put {} = a", "put b.{} = a",
                          "put a = {}", "lend {} = a", "move {} = a", "move a = {}", "touch {} look", "drop {}",
                          "call {} = g()", "call {}()", "call g(lend {})", "call g(move {})", "call g(lend a.{})",
                          "return {}"):
                self.check_no_text(shape.replace("{}", name))

    def test_variables_that_must_differ(self):
        for text in ("copy x = x", "copy x = x.f", "take x = x", "take x = x.f", "put x = x", "put x.f = x", "move x = x"):
            self.check_no_text(text)
        for text in ("lend x = x", "lend x = x.f", "call x = x(lend x, move x)", "put x.y = y"):
            self.assertEqual(write_step(read_step(text)), text)

    def test_each_text_with_one_sign_changed(self):
        for _, text in TEXTS:
            for at in range(len(text) + 1):
                for sign in ("", " ", "=", ".", ",", "(", ")", "a", "A", "-", "\n", "l"):
                    self.check_other(text[:at] + sign + text[at + 1:])
                    self.check_other(text[:at] + sign + text[at:])

    def check_other(self, text):
        try:
            step = read_step(text)
        except ParseError as error:
            self.assertIsNone(error.line)
        else:
            self.assertTrue(is_step(step))
            self.assertEqual(write_step(step), text)

    def test_other_values(self):
        for value in odd_values() + [("skip",), ["skip"], b"skip", 0]:
            self.check_no_text(value)


def many_steps():
    """All steps over a few names."""
    names, parts = ("a", "b", "callx"), ("", "a", "f")
    for x in names:
        yield from [("new", x), ("drop", x), ("return", x)]
        for y in names:
            yield from [("lend", x, y, part) for part in parts]
            if x != y:
                yield ("move", x, y)
                yield from [(word, x, y, part) for word in ("copy", "take") for part in parts]
                yield from [("put", x, part, y) for part in parts]
        yield from [("touch", x, part, way) for part in parts for way in ("full", "look")]
    yield from [("skip",), ("return", "")]
    arguments = [("move", x) for x in names] + [("lend", x, part) for x in names for part in parts]
    for many in range(3):
        for told in itertools.product(arguments, repeat=many):
            yield from [("call", r, g, told) for r in ("", "a", "b") for g in ("a", "g")]
    yield from [("call", "r", "g", told) for told in itertools.product(arguments, repeat=3)]
