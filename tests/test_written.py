"""Texts of states, tables, walk lines, certificates and contracts."""

import random
import unittest

from loanpairs.base.words import KEYWORDS
from loanpairs.decide.papers import certificate
from loanpairs.decide.shortest import Fewest
from loanpairs.decide.tables import Table
from loanpairs.errors import InvalidContract, InvalidState, InvalidTable, InvalidWalk, ParseError
from loanpairs.text.texts import (
    read_certificate, read_contract, read_state, read_table, read_walk, write_certificate, write_contract, write_state,
    write_table, write_walk,
)
from loanpairs.use.contracts import Contract
from tests.helper import CACHE, KEEP, LAST, LATE, check_errors, check_raises, odd_values, wrong_for
from tests.makers import random_contract, random_program, random_walk

LONG = 10 ** 60 - 1
NAMES = ("a", "b", "held", "empty", "ended", "into", "from", "never", "table", "run", "sound", "abcdefgh")


def random_fact(rng):
    word, name, other, part = (rng.choice(x) for x in (("empty", "held", "ended", "into", "from"), NAMES, NAMES, ("", *NAMES)))
    if word in ("into", "from"):
        return (word, name, other, part) if name != other or word == "from" else (word, name, "other", part)
    return (word, name)


def random_any_state(rng):
    return None if rng.random() < 0.1 else tuple(sorted({random_fact(rng) for _ in range(rng.randint(0, 5))}))


def random_rows(rng):
    """A table of no program."""
    rows = {}
    for name in rng.sample(NAMES, rng.randint(1, 4)):
        outcomes = {("return",), ("own",), *(("from", rng.choice(NAMES), rng.choice(("", *NAMES))) for _ in range(4))}
        some = tuple(sorted(rng.sample(sorted(outcomes), rng.randint(0, 4))))
        rows[name] = (tuple(random_any_state(rng) for _ in range(rng.randint(1, 4))), some)
    return rows


def random_lines(rng):
    """Walk lines of no program."""
    lines = []
    for many in range(rng.randint(1, 5)):
        way = tuple((rng.choice([0, 1, 7, 40, LONG]), rng.choice([None, *range(many)])) for _ in range(rng.randint(0, 5)))
        lines.append((rng.choice(NAMES), way))
    return tuple(lines)


def check_reading(case, read, text, line):
    case.assertEqual(check_raises(case, ParseError, read, text).line, line, text)


def spoilt_lines(line):
    """Texts near a line that has a form, which are none themselves or the line itself; none has a line break."""
    found = [line + " ", " " + line, line + ",", line.upper(), line.replace(" ", "  ", 1), line.replace(" ", "", 1), "",
             line + "-", "+" + line, "0" + line, line.replace(", ", ",", 1), line.replace(", ", " , ", 1), line + " x.", "?"]
    return [text for text in found if text != line]


class States(unittest.TestCase):
    def test_examples(self):
        self.assertEqual(
            [write_state(Table(CACHE).state("get", 1)), write_state(()), write_state(None), read_state("r held, r into a.f")],
            ["m from m, r from m.val, m held, r held, r into m.val", "-", "never", (("held", "r"), ("into", "r", "a", "f"))])
        check_reading(self, read_state, "r into a.f, r held", None)

    def test_each_fact(self):
        for fact, text in ((("empty", "x"), "x empty"), (("held", "x"), "x held"), (("ended", "r"), "r ended"),
                           (("into", "r", "a", "f"), "r into a.f"), (("into", "r", "a", ""), "r into a"),
                           (("from", "r", "p", "f"), "r from p.f"), (("from", "p", "p", ""), "p from p"),
                           (("held", "held"), "held held"), (("into", "from", "into", "never"), "from into into.never"),
                           (("empty", "never"), "never empty")):
            self.assertEqual(write_state((fact,)), text)
            self.assertEqual(read_state(text), (fact,))

    def test_read_back(self):
        rng, texts = random.Random(5), {}
        for _ in range(400):
            state = random_any_state(rng)
            text = write_state(state)
            self.assertEqual(read_state(text), state)
            self.assertEqual(texts.setdefault(text, state), state)

    def test_long_states(self):
        state = tuple(sorted(("into", "r" + one + other, "x", part) for one in "abcdefgh" for other in "abcdefgh"
                             for part in ("", *"fghk")))
        self.assertEqual(read_state(write_state(state)), state)

    def test_no_states(self):
        held = ("held", "a")
        values = [[held], (held, held), (("held", "b"), held), (held, ("empty", "a")), (("held",),), (("held", "A"),), (("held", ""),),
                  (("into", "a", "a", ""),), (("into", "a", "b"),), (("into", "a", "b", None),), (("into", "a", "b", "call"),),
                  (("from", "a", "", ""),), (("from", 1, "b", ""),), (("gone", "a"),), (("own",),), (("held", "a", ""),),
                  (["held", "a"],), ("held", "a"), "a held", (("held", "abcdefghi"),), (("held", "own"),), (("ended", "a", "b", ""),),
                  (("into", "a", "b", "", ""),), {}, (None,), (("held", None),), ((True, "a"),)]
        check_errors(self, write_state, ((),), [wrong_for(InvalidState, *values, but=(None,))])
        for value in values:
            check_raises(self, InvalidState, write_state, value)

    def test_no_texts(self):
        for text in ["", " ", "--", "- ", "never ", "Never", "a", "a  held", "a held,b held", "a held , b held", "a held, ", ", a held",
                     "a held, a held", "b held, a held", "a held, a empty", "held a", "a into a", "a into b.", "a into .f", "a into b.f.g",
                     "a into b f", "a held b", "a from", "call held", "A held", "a Held", "a held\n", "\na held", "a held, b", "a gone",
                     "abcdefghi held", "a held.", "a.f held", "a from p, a from p", "-, a held", "never, a held", "a ended b",
                     *(f"{word} held" for word in KEYWORDS)]:
            check_reading(self, read_state, text, None)
        for value in odd_values():
            check_reading(self, read_state, value, None)


class Tables(unittest.TestCase):
    def test_examples(self):
        self.assertEqual(write_table(Table(LATE).rows).split("\n")[:2], ["late: return", "0 r empty, a held"])

    def test_forms(self):
        rows = {"u": ((None, (), (("held", "x"),)), ()),
                "a": (((),), (("from", "p", ""), ("from", "p", "f"), ("from", "q", ""), ("own",), ("return",)))}
        text = "a: p p.f q own return\n0 -\nu: -\n0 never\n1 -\n2 x held"
        self.assertEqual(write_table(rows), text)
        self.assertEqual(read_table(text), rows)
        self.assertEqual(list(read_table(text)), ["a", "u"])

    def test_read_back(self):
        rng, texts = random.Random(6), {}
        for _ in range(300):
            rows = random_rows(rng)
            text = write_table(rows)
            self.assertEqual(read_table(text), rows)
            self.assertEqual(texts.setdefault(text, rows), rows)
        for seed in range(30):
            rows = Table(random_program(random.Random(seed))).rows
            self.assertEqual(read_table(write_table(rows)), rows)
        for told in (LAST, CACHE, LATE, KEEP, LAST | CACHE | LATE | KEEP):
            self.assertEqual(read_table(write_table(Table(told).rows)), Table(told).rows)

    def test_no_tables(self):
        row = (((),), (("return",),))
        values = [{}, [("a", row)], {"": row}, {"A": row}, {1: row}, {"call": row}, {"a": row, None: row}, {"a": None}, {"a": list(row)},
                  {"a": ((), ())}, {"a": ([()], ())}, {"a": (((),), [])}, {"a": (((),),)}, {"a": (((),), (), ())},
                  {"a": (((("held", "x"), ("empty", "x")),), ())}, {"a": (((),), (("return",), ("own",)))},
                  {"a": (((),), (("own",), ("own",)))}, {"a": (((),), (("from", 0, ""),))}, {"a": (((),), (("from", "p"),))},
                  {"a": (((),), (("from", "p", "call"),))}, {"a": (((),), ("own",))}, {"a": (((),), (["own"],))}, {"a": (((),), (["from", "p", ""],))}, {"a": (((),), (None,))}, {"a": (((),), (7,))},
                  {"a": ((0,), ())}, {"a": (("-",), ())}, {"a": row, "b": ((), ())}, {"a": (((),), (("from", "p", None),))},
                  {"a": (((),), (("into", "p", ""),))}, {(): row}]
        check_errors(self, write_table, ({"a": row},), [wrong_for(InvalidTable, *values)])

    def test_lines_without_a_form(self):
        lines = ["a: p q.f return", "0 a held, b held", "1 never", "b: -", "0 -"]
        self.assertEqual(write_table(read_table("\n".join(lines))), "\n".join(lines))
        for at, line in enumerate(lines):
            for text in spoilt_lines(line):
                check_reading(self, read_table, "\n".join([*lines[:at], text, *lines[at + 1:]]), at)
                check_reading(self, read_table, "\n".join([*lines[:at], text, *lines[at + 1:-1], "?"]), at)
        for text in ("a: q p", "a: return own", "a: p p", "a: p -", "a: 0", "A: -", "call: -", "a:", "a: ", "a:  -", "a : -",
                     "-: -", "a: p.", "a: .f", "a: call", "00 -", "-1 -", "+0 -", "0", "0 ", "0: -", "0 b held, a held", "0 x", "a -",
                     f"{10 ** 60} -", "0 - -", "0 held a"):
            check_reading(self, read_table, text, 0)
            check_reading(self, read_table, "a: -\n0 -\n" + text, 2)

    def test_no_such_values(self):
        for text in ("0 -", "a: -", "a: -\n1 -", "a: -\n0 -\n0 -", "a: -\n0 -\n2 -", "a: -\n0 -\nb: -", "b: -\n0 -\na: -\n0 -",
                     "a: -\n0 -\na: -\n0 -", "a: -\nb: -\n0 -", f"a: -\n{LONG} -", "0 -\na: -\n0 -", "a: -\n1 -\n0 -"):
            check_reading(self, read_table, text, None)
        for value in [value for value in odd_values() if not isinstance(value, str)]:
            check_reading(self, read_table, value, None)
        check_reading(self, read_table, "", 0)
        check_reading(self, read_table, "a: -\n0 -\n", 2)


class Walks(unittest.TestCase):
    def test_examples(self):
        self.assertEqual([write_walk(Fewest(LATE).faulty_run()), read_walk("g 0 1\nuse 0(0) 1")[1]],
                         ["late 0 1 2", ("use", ((0, 0), (1, None)))])

    def test_forms(self):
        lines = (("g", ()), ("g", ((0, None), (LONG, 0))), ("held", ((3, 1), (2, None))))
        self.assertEqual(write_walk(lines), f"g\ng 0 {LONG}(0)\nheld 3(1) 2")
        self.assertEqual(read_walk(write_walk(lines)), lines)

    def test_read_back(self):
        rng, texts = random.Random(7), {}
        for _ in range(300):
            lines = random_lines(rng)
            text = write_walk(lines)
            self.assertEqual(read_walk(text), lines)
            self.assertEqual(texts.setdefault(text, lines), lines)
        for seed in range(40):
            rng = random.Random(seed)
            told = random_program(rng)
            lines = random_walk(rng, told, rng.choice(told.names)).lines
            self.assertEqual(read_walk(write_walk(lines)), lines)

    def test_no_walks(self):
        values = [(), [("a", ())], (("a", ()), ["a", ()]), (("A", ()),), ((1, ()),), (("a", []),), (("a",),), (("a", (), ()),),
                  (("a", (0,)),), (("a", ((0,),)),), (("a", ((-1, None),)),), (("a", ((True, None),)),), (("a", ((LONG + 1, None),)),),
                  (("a", ((0, 0),)),), (("a", ()), ("a", ((0, 1),))), (("a", ()), ("a", ((0, False),))), (("a", ()), ("a", ((0, -1),))),
                  (("a", ((0, None, None),)),), (("a", ((None, None),)),), (("a", ((0, "0"),)),), (("a", ([0, None],)),), "a 0", ("a", ()),
                  (("call", ()),)]
        check_errors(self, write_walk, ((("a", ()),),), [wrong_for(InvalidWalk, *values)])

    def test_lines_without_a_form(self):
        lines = ["g 0 1", "use 0(0) 1", "use"]
        for at, line in enumerate(lines):
            for text in spoilt_lines(line):
                if text not in ("use-", "useg") and text != line.replace(" ", "", 1):
                    check_reading(self, read_walk, "\n".join([*lines[:at], text, *lines[at + 1:]]), at)
        for text in ("g 00", "g -1", "g +1", "g 0()", "g (0)", "g 0(0", "g 0 0)", "g 0(00)", "g 0(0)(0)", "g 0((0))", f"g {LONG + 1}",
                     f"g 0({LONG + 1})", "g 0(-1)", "g a", "0", "g0", "G 0", "call 0", "g 0,1", "g 0(0 )", "g 0 (0)", "g 0.", "g\t0"):
            check_reading(self, read_walk, text, 0)
            check_reading(self, read_walk, "g\n" + text + "\n?", 1)

    def test_no_such_values(self):
        for text in ("g 0(0)", "g\ng 0(1)", "g 0(1)\ng 0", f"g\ng 0({LONG})"):
            check_reading(self, read_walk, text, None)
        check_reading(self, read_walk, "g 0(0)\n?", 1)
        check_reading(self, read_walk, "", 0)
        check_reading(self, read_walk, "g\n", 1)
        for value in [value for value in odd_values() if not isinstance(value, str)]:
            check_reading(self, read_walk, value, None)


class Certificates(unittest.TestCase):
    def test_forms(self):
        self.assertEqual(write_certificate(certificate(LATE)), "run\nlate 0 1 2")
        self.assertEqual(write_certificate(certificate(LAST)), "table\n" + write_table(Table(LAST).rows))

    def test_read_back(self):
        rng = random.Random(8)
        for seed in range(60):
            told = certificate(random_program(random.Random(seed)))
            for value in (told, ("table", random_rows(rng)), ("run", random_lines(rng))):
                self.assertEqual(read_certificate(write_certificate(value)), value)

    def test_no_certificates(self):
        run, table = certificate(LATE), certificate(LAST)
        values = [("table", run[1]), ("run", table[1]), list(run), (*run, 1), run[:1], ("Run", run[1]), ("run", ()), ("table", {}),
                  ("table", None), (None, run[1]), "run", (), run[::-1], (["run"], run[1])]
        check_errors(self, write_certificate, (run,), [wrong_for(InvalidTable, *values)])

    def test_lines_without_a_form(self):
        for word, lines in (("table", ["a: -", "0 never"]), ("run", ["g 0 1", "use 0(0)"])):
            read_certificate("\n".join([word, *lines]))
            for at in range(2):
                check_reading(self, read_certificate, "\n".join([word, *lines[:at], "?", *lines[at + 1:]]), at + 1)
            for near in (word + " ", " " + word, word.upper(), "", "sound", "?"):
                check_reading(self, read_certificate, "\n".join([near, *lines]), 0)
                check_reading(self, read_certificate, "\n".join([near, "?"]), 0)
            check_reading(self, read_certificate, word + "\n", 1)
        check_reading(self, read_certificate, "table\ng 0 1", 1)
        check_reading(self, read_certificate, "run\na: -\n0 never", 1)

    def test_no_such_values(self):
        for text in ("table", "run", "table\na: -", "run\ng 0(0)", "table\n0 -", "table\nb: -\n0 -\na: -\n0 -"):
            check_reading(self, read_certificate, text, None)
        for value in odd_values():
            check_reading(self, read_certificate, value, 0 if isinstance(value, str) else None)


class Contracts(unittest.TestCase):
    def test_examples(self):
        self.assertEqual(
            [write_contract(Contract.of(LAST, "last")), read_contract("next val; (full) full: 0 0.next") == Contract.of(LAST, "last")],
            ["next val; (full) full: 0 0.next", True])

    def test_own_outcomes(self):
        told = Contract(("f",), ("full",), "full", (("from", 0, "f"),))
        self.assertEqual([write_contract(told), str(told)], ["f; (full) full: 0.f", "(full) full: 0 0.f"])
        self.assertEqual(read_contract("f; (full) full: 0.f").outcomes, told.outcomes)

    def test_forms(self):
        for text in ("f; (): never", "f g; (): return", "g f; (own) own: own", "f; (own, look, full): never", "f; () own: own",
                     "never; (look) look: 0 0.never"):
            self.assertEqual(write_contract(read_contract(text)), text)

    def test_read_back(self):
        rng, texts = random.Random(9), {}
        for _ in range(400):
            fields = tuple(rng.sample(NAMES, rng.randint(1, 4)))
            kinds = tuple(rng.choice(("full", "look", "own")) for _ in range(rng.randint(0, 3)))
            told = random_contract(rng, fields, kinds, rng.choice(("", "full", "look", "own")))
            text = write_contract(told)
            again = read_contract(text)
            self.assertEqual([again, again.fields, again.outcomes], [told, told.fields, told.outcomes])
            parts = (told.fields, told.kinds, told.result, told.outcomes)
            self.assertEqual(texts.setdefault(text, parts), parts)

    def test_no_contracts(self):
        check_errors(self, write_contract, (Contract.of(LAST, "last"),),
                     [[(value, InvalidContract) for value in odd_values() if not isinstance(value, Contract)]])

    def test_no_texts(self):
        for text in ["", "f", "f; ", "(full) full: 0", "; (full) full: 0", "f f; (full) full: 0", "f; (full) full: 0 0", "f;(full) full: 0",
                     "f; (full) full: 0.f 0", "f; (full) full: ", "f; (full) full:", "f; (full) full: 0 never", "f; (full) full: 1",
                     "f; (full) full: 00", "f; (full) full: 0.g", "f; (full) full: 0.", "f; (full) full: -0", "f; (full) full: own",
                     "f; (full): 0", "f; (full) : never", "f; (full)  full: 0", "f; ( full) full: 0", "f; (full,look) look: 0",
                     "f; (full, look,) look: 0", "f; (full,  look) look: 0", "f; full full: 0", "f; (full full: 0", "f; (fulls) full: 0",
                     "f; (look) full: 0", "f; (own) own: return", "f; (own): own", "f; (): never never", "f; (): return return",
                     "f; (): never ", " f; (): never", "f; (): never\n", "f  g; (): never", "f g h k l; (): never", "call; (): never",
                     "f; (own, own, own, own): never", "f; (full) full: 0 0.f 1", f"f; (full) full: {LONG}", f"f; (full) full: {LONG + 1}",
                     "f; (full) full: a", "f; (full) full: from", "F; (): never", "f; (): Never", "f; (own) own own: own", "f; () call: never",
                     "f; (full) full: 0.f.f", "f: (): never", "f; (full) full: 0, 0.f"]:
            check_reading(self, read_contract, text, None)
        for value in odd_values():
            check_reading(self, read_contract, value, None)


if __name__ == "__main__":
    unittest.main()
