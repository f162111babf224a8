"""The shell: its commands, their answers, and its errors."""

import random
import unittest

from loanpairs.base.functions import Function
from loanpairs.decide.papers import certificate
from loanpairs.decide.shortest import Fewest
from loanpairs.errors import (
    InvalidContract, InvalidFunction, InvalidNumber, InvalidWord, LoanError, NothingToUndo, ParseError, Refused, TooMany,
    UnknownName,
)
from loanpairs.project.project import Project
from loanpairs.text.shell import Shell
from loanpairs.text.texts import read_contract, write_certificate, write_contract, write_state
from loanpairs.use.advice import can_be_look, marks
from loanpairs.use.alarms import alarms
from loanpairs.use.contracts import Contract
from loanpairs.use.copies import can_copy, cheapest_copies
from tests.helper import CACHE, KEEP, LAST, LATE, check_raises, odd_values
from tests.makers import random_contract, random_function, random_head

USE = "def use(a own): r full; call r = g(lend a); touch a.val full; touch r full; return"


def put(program):
    return [f"put {'; '.join(function.text)}" for function in program.functions]


def shell_with(*commands, fields=("next", "val")):
    shell = Shell(*fields)
    for command in commands:
        answer = shell(command)
        assert answer.split()[-1] in ("new", "nothing"), (command, answer)
    return shell


class Case(unittest.TestCase):
    def check(self, shell, *pairs):
        """Each command has this answer, and counts unless it is one of an error."""
        for command, answer, *more in pairs:
            before = len(shell)
            self.assertEqual(shell.run(command), answer, command)
            self.assertEqual(len(shell), before + (more == []), command)

    def check_wrong(self, shell, *pairs):
        """The same for errors, which change nothing."""
        before = shell.project()
        self.check(shell, *[(*pair, "error") for pair in pairs])
        self.assertEqual(shell.project(), before)


class Examples(Case):
    def test_examples(self):
        shell = Shell("next", "val")
        self.assertEqual(
            [shell("assume g (full) full: 0.val 0.next"), shell("assume g (full) full: 0.next 0.val"), shell(f"put {USE}")],
            ["parse", "g new", "use new"])
        self.assertEqual(
            [shell("sound use"), shell("pin sound use"), shell("assume g (full) full: 0.next"), shell("pin sound use"),
             shell("assume g (full) full: 0"), shell("check")],
            ["2 ended r", "refused sound use", "g contract, use facts", "nothing", "refused sound use", "operation"])
        self.assertEqual([shell("undo"), shell("names"), shell("state use 1"), shell("marks use"), len(shell)],
                         ["nothing", "use g", "a held, r held, r into a.next", "operation", 8])

    def test_made(self):
        for given in ((), ("f", "f"), ("call",), tuple("abcde"), ("f", 1)):
            check_raises(self, InvalidWord, Shell, *given)
        for value in odd_values():
            check_raises(self, InvalidWord, Shell, value)
        shell = Shell("f")
        self.assertEqual([len(shell), str(shell), shell.project()],
                         [0, "shell with project of 0 functions, 0 assumed, 0 pins", Project("f")])

    def test_texts(self):
        shell = shell_with("assume g (full) full: 0.next", f"put {USE}", "pin sound use")
        self.assertEqual(str(shell), "shell with project of 1 functions, 1 assumed, 1 pins")
        self.assertEqual(len(shell), 3)

    def test_the_project_is_a_twin(self):
        shell = shell_with(*put(LAST))
        project = shell.project()
        project.undo()
        self.check(shell, ("names", "last"), ("undo", "last gone"), ("redo", "last new"))
        self.assertEqual([len(project), len(shell.project())], [0, 1])
        twin = shell.project()
        self.assertEqual([twin.undo(), twin.redo()], [(("last", "gone"),), (("last", "new"),)])

    def test_both_ways_to_call(self):
        shell = Shell("f")
        self.assertEqual([shell("names"), shell.run("names"), len(shell)], ["nothing", "nothing", 2])


class Changes(Case):
    def test_each(self):
        self.check(Shell("next", "val"), ("names", "nothing"), ("put def f()", "function", "error"), ("put def f(); return", "f new"),
                   ("put def f(); return", "nothing"), ("put def f(); skip -> 0", "f contract"), ("undo", "f contract"),
                   ("redo", "f contract"), ("put def a(); call f(); skip; return", "a new"), ("put def f(); return", "a contract, f contract"),
                   ("assume z (): never", "z new"), ("assume b () own: own", "b new"), ("names", "a f b z"), ("pin sound a", "nothing"),
                   ("pin unmarked f", "nothing"), ("pin within b () own: own", "nothing"), ("pin within a (): return", "nothing"),
                   ("unpin unmarked f", "nothing"), ("unpin within b () own: own", "nothing"), ("remove z", "z gone"),
                   ("remove b", "b gone"), ("undo", "b new"), ("undo", "z new"), ("redo", "z gone"), ("names", "a f b"))

    def test_errors(self):
        shell = shell_with("assume g (full) full: 0.next", f"put {USE}", "pin sound use", "pin within g (full) full: 0.next 0.val")
        self.check_wrong(
            shell, ("put", "what"), ("put ", "parse 0"), ("put x", "parse 0"), ("put def f(); skip; x; return", "parse 2"),
            ("put def f();return", "parse 0"), ("put def f(); ", "parse 1"), ("put def f(); return; ", "parse 2"),
            ("put def f()\nreturn", "parse 0"), ("put def f(); return x", "function"), ("put def f(a own, a own); return", "function"),
            ("put def f(); touch a.left full; return", "function"), ("put def f(a own); touch a.left full; return", "operation"),
            ("put def f(); call h(); return", "operation"), ("put  def f(); return", "parse 0"), ("put def f(); skip", "function"),
            ("put def f(); skip -> 1; return", "parse 1"), ("put def call(); return", "parse 0"),
            ("remove zz", "unknown zz"), ("remove g", "operation"), ("remove use", "operation"), ("remove", "what"), ("remove ", "what"),
            ("remove use g", "what"), ("remove Use", "what"), ("remove call", "what"), ("remove 1", "what"),
            ("assume", "what"), ("assume g", "what"), ("assume g ", "parse"), ("assume g x", "parse"), ("assume call (): never", "what"),
            ("assume  (): never", "what"), ("assume (): never", "what"), ("assume g next val; (full) full: 0", "parse"),
            ("assume h (full) full: 0.left", "parse"), ("assume h (full) full: 0 0", "parse"), ("assume h  (): never", "parse"),
            ("assume g (look) look: 0", "operation"), ("assume g (full) full: 0", "refused sound use"),
            ("assume use (own): return", "operation"), ("assume use", "what"),
            ("pin", "what"), ("pin ", "what"), ("pin sound", "what"), ("pin sound ", "what"), ("pin sound zz", "operation"),
            ("pin sound g", "operation"), ("pin sound use", "operation"), ("pin sound use x", "what"), ("pin Sound use", "what"),
            ("pin within g", "what"), ("pin within g ", "parse"), ("pin within g x", "parse"), ("pin within  x", "what"),
            ("pin within zz (): never", "operation"), ("pin within zz x", "parse"), ("pin within call (): never", "what"),
            ("pin within g (full) full: 0.next 0.val", "operation"), ("pin within g (full) full: never", "refused within g (full) full: never"),
            ("pin within use (own): return x", "parse"), ("pin within use (own): never", "refused within use (own): never"),
            ("pin unmarked zz", "operation"), ("pin unmarked 1", "what"), ("pin unmarked", "what"), ("pin loud use", "what"),
            ("unpin", "what"), ("unpin sound g", "operation"), ("unpin sound zz", "operation"), ("unpin unmarked use", "operation"),
            ("unpin within g (full) full: 0.next", "operation"), ("unpin within g x", "parse"), ("unpin sound", "what"),
            ("redo", "undo"), ("undo 2", "what"), ("undo ", "what"), ("redo 1", "what"), ("Undo", "what"),
        )
        self.check(shell, *[("undo", answer) for answer in ("nothing", "nothing", "use gone", "g gone")])
        self.check_wrong(shell, ("undo", "undo"))

    def test_a_refused_pin_is_told_with_its_own_outcomes(self):
        shell = shell_with("assume g (full) full: 0.next", fields=("next",))
        shell("pin within g (full) full: 0.next")
        self.check(shell, ("show g", "(full) full: 0.next"), ("contract g", "(full) full: 0 0.next"))
        shell = shell_with("assume g (full, full) full: 0.next", "pin within g (full, full) full: 0.next 0.val")
        self.check_wrong(shell, ("assume g (full, full) full: 1", "refused within g (full, full) full: 0.next 0.val"))

    def test_too_many(self):
        shell = shell_with(*[f"put def {name}(); return" for name in "abcdefghijkl"],
                           *[f"pin sound {name}" for name in "abcdefghij"], fields=("f",))
        self.check_wrong(shell, ("put def m(); return", "many 12"), ("assume m (): never", "many 12"), ("pin sound k", "many 10"))


class Asked(Case):
    def test_names_and_texts(self):
        shell = shell_with("assume h (full) full: 0.next 0.val", "assume b () own: never", *put(LAST), *put(LATE))
        self.check(
            shell, ("names", "last late b h"), ("show last", "; ".join(LAST["last"].text)), ("show h", "(full) full: 0.next 0.val"),
            ("show b", "() own: never"), ("contract h", "(full) full: 0 0.next 0.val"), ("contract last", "(full) full: 0 0.next"),
            ("contract late", "(own): return"), ("state late 0", "r empty, a held"), ("state late 2", "r ended, a held, r held, r into a.val"),
            ("sound last", "sound"), ("sound late", "2 ended r"))
        self.check_wrong(
            shell, ("show zz", "unknown zz"), ("contract zz", "unknown zz"), ("state zz 0", "unknown zz"), ("state h 0", "unknown h"),
            ("sound h", "unknown h"), ("sound zz", "unknown zz"), ("state late 4", "number 4"), (f"state late {10 ** 60 - 1}", f"number {10 ** 60 - 1}"),
            (f"state late {10 ** 60}", "what"), ("state late 00", "what"), ("state late -1", "what"), ("state late +1", "what"),
            ("state late", "what"), ("state late 1 2", "what"), ("state late  1", "what"), ("state late x", "what"), ("state Late 1", "what"),
            ("show", "what"), ("show ", "what"), ("show last late", "what"), ("show call", "what"), ("show last ", "what"), ("names ", "what"),
            ("names last", "what"), (" names", "what"), ("Names", "what"), ("contract", "what"), ("contract h x", "what"), ("sound", "what"),
            ("sound late 2", "what"), ("sound 2", "what"), ("show last\n", "what"), ("names\n", "what"), ("state late 1\n", "what"))

    def test_states(self):
        shell = shell_with("put def f(); skip; skip -> 1; return", fields=("f",))
        self.check(shell, ("state f 0", "-"), ("state f 1", "-"), ("state f 2", "never"))

    def test_faults(self):
        shell = shell_with("put def g(p full, q full, r full); return",
                           "put def f(a own): b own, r look; lend r = a; drop a; call g(lend a, lend b, lend a); put a = b; touch r look; return",
                           "put def h(a own) look: r look; lend r = a; return r", fields=("f",))
        self.check(shell, ("sound f", "2 argument 0, 2 empty a, 2 empty b, 3 empty a, 3 empty b, 4 ended r"), ("sound h", "1 result r"))

    def test_commands_that_need_a_program(self):
        shell = shell_with("assume g (): return", "put def f(); call g(); return", fields=("f",))
        commands = ("marks f", "marks zz", "marks g", "check", "fewest f 0", "fewest f 9", "fewest f", "fewest zz", "fewest zz 1", "look",
                    "copies", "copies f.r 5", "copies f.r 1, f.s 2", "alarms f", "alarms zz")
        self.check_wrong(shell, *[(command, "operation") for command in commands])
        self.check_wrong(Shell("f"), *[(command, "operation") for command in commands])
        self.check_wrong(shell, *[(command, "what") for command in (
            "marks", "marks f 2", "marks ", "check f", "check ", "fewest", "fewest f 00", "fewest f x", "fewest f 1 2", "fewest ", "look f", "look ",
            "copies ", "copies f", "copies f.r", "copies f.r x", "copies f.r -1", "copies f.r 05", "copies f.r 5,", "copies f.r 5, ", "copies f.r 5,f.s 2",
            "copies f.r 5 f.s 2", "copies f 5", "copies f.r.s 5", "copies f.r 5, f.r 5", "copies f.r 5, f.r 6", f"copies f.r {10 ** 60}", "copies f. 5",
            "copies .r 5", "copies f.r  5", "copies f.call 1", "alarms", "alarms f 2", "alarms ", "", " ", "what", "f", "check\n", "?")])

    def test_marks(self):
        shell = shell_with("put def up(p full) full: q full, x own; lend q = p.f -> 1 2; new x; touch q look -> 3 4; drop x; return q", fields=("f",))
        self.check(shell, ("marks up", "3 x, 4 x"), ("look", "up, up.p, up.q"), ("put def f(a own); return", "f new"), ("marks f", "nothing"))
        self.check_wrong(shell, ("marks zz", "unknown zz"), ("marks x", "unknown x"))

    def test_check(self):
        shell = shell_with(*put(LAST))
        self.check(shell, ("check", "sound"))
        shell(put(LATE)[0])
        self.check(shell, ("check", "run\nlate 0 1 2"))

    def test_fewest(self):
        shell = shell_with(*put(LATE | LAST))
        self.check(shell, ("fewest late 3", "3"), ("fewest late", "3"), ("fewest last", "never"), ("fewest last 2", "1"), ("fewest late 0", "0"))
        self.check_wrong(shell, ("fewest zz", "unknown zz"), ("fewest zz 0", "unknown zz"), ("fewest late 4", "number 4"),
                         (f"fewest late {10 ** 59}", f"number {10 ** 59}"), (f"fewest late {10 ** 60}", "what"))
        shell("put def f(); skip -> 0; return")
        self.check(shell, ("fewest f 1", "never"), ("fewest f", "never"))

    def test_look(self):
        shell = shell_with("put def f(p full): q full; touch p full; return")
        self.check(shell, ("look", "f.q"), ("put def f(p full); touch p full; return", "f facts"), ("look", "nothing"))

    def test_copies(self):
        shell = shell_with("put def f(a own): r look, s look, t full; lend r = a; lend s = a; touch a full; touch r look; touch s look; return")
        self.check(shell, ("copies f.r 5, f.s 2", "f.r, f.s"), ("copies f.s 2, f.r 5", "f.r, f.s"), ("copies", "none"), ("copies f.r 0", "none"),
                   (f"copies f.r {10 ** 60 - 1}, f.s {10 ** 60 - 1}", "f.r, f.s"))
        self.check_wrong(shell, ("copies f.a 1", "operation"), ("copies f.z 1", "operation"), ("copies g.r 1", "operation"),
                         ("copies f.r 1, f.z 1", "operation"))
        shell("put def f(a own): r look; lend r = a; touch r look; return")
        self.check(shell, ("copies f.r 0", "nothing"), ("copies", "nothing"))
        names = "lmnopqr"
        shell("put def f(a own): " + ", ".join(f"{name} look" for name in names) + "; return")
        seven = ", ".join(f"f.{name} 1" for name in names)
        self.check_wrong(shell, (f"copies {seven}", "many 6"), (f"copies {seven[:-5]}f.a 1", "operation"))
        self.check(shell, (f"copies {seven[:-7]}", "nothing"))

    def test_alarms(self):
        shell = shell_with(*put(CACHE | LAST))
        self.check(shell, ("alarms get", "2 0 0, 3 0 0"), ("alarms last", "nothing"))
        self.check_wrong(shell, ("alarms zz", "unknown zz"))

    def test_no_texts(self):
        shell = shell_with(*put(LAST))
        self.check_wrong(shell, *[(value, "what") for value in odd_values()])
        for value in odd_values():
            self.assertEqual(shell(value), "what")
        self.assertEqual(len(shell), 1)

    def test_names_that_are_words_of_commands(self):
        shell = shell_with("put def undo(); return", "assume check (): return", "put def names(); call check(); return", fields=("f",))
        self.check(shell, ("names", "names undo check"), ("show undo", "def undo(); return"), ("sound names", "sound"), ("remove undo", "undo gone"),
                   ("show check", "(): return"), ("pin sound names", "nothing"), ("state names 1", "-"))


class Beside(unittest.TestCase):
    """A shell beside a project at which the same is done by the functions of all stages."""

    def answer(self, project, word, *given):
        """The answer that a command has to have, worked out by the functions themselves."""
        try:
            return self.plain(project, word, *given), True
        except UnknownName as error:
            return f"unknown {error.wanted}", False
        except ParseError as error:
            return "parse" if error.line is None else f"parse {error.line}", False
        except TooMany as error:
            return f"many {error.limit}", False
        except Refused as error:
            word, name, *more = error.claim
            told = [write_contract(x).partition("; ")[2] for x in more]
            return " ".join(["refused", word, name, *told]), False
        except NothingToUndo:
            return "undo", False
        except InvalidFunction:
            return "function", False
        except InvalidContract:
            return "contract", False
        except InvalidNumber as error:
            return f"number {error.given}", False
        except LoanError:
            return "operation", False

    def plain(self, project, word, *given):
        def listed(told):
            return ", ".join(told) or "nothing"

        if word in ("put", "remove", "assume", "pin", "unpin", "undo", "redo"):
            return listed(f"{name} {news}" for name, news in getattr(project, word)(*given))
        if word == "names":
            return " ".join([*project.functions, *project.assumed]) or "nothing"
        if word == "show" and given[0] in project:
            return "; ".join(project[given[0]].text)
        if word == "show":
            return write_contract(project.contract(*given)).partition("; ")[2]
        if word == "contract":
            return str(project.contract(*given))
        if word == "state":
            states = project.states_of(given[0])
            if given[1] >= len(states):
                raise InvalidNumber(given[1])
            return write_state(states[given[1]])
        if word == "sound":
            faults = [f"{at} {told} {which}" for at, (told, which) in project.faults_of(*given)]
            return ", ".join(faults) or "sound"
        told = project.whole()
        if word == "marks":
            return listed(f"{at} {owner}" for at, owner in marks(told, *given))
        if word == "check":
            found = certificate(told)
            return "sound" if found[0] == "table" else write_certificate(found)
        if word == "fewest":
            steps = Fewest(told).to(*given) if len(given) == 2 else Fewest(told).to_fault(*given)
            return "never" if steps is None else str(steps)
        if word == "alarms":
            return listed(f"{at} {line} {place}" for at, (line, place) in alarms(told, *given))
        if word == "copies":
            found = cheapest_copies(told, dict(given))
            return "none" if found is None else listed(".".join(pair) for pair in found)
        return listed(name if variable == "" else f"{name}.{variable}" for name, variable in can_be_look(told))

    def command(self, word, given):
        """The text of a command."""
        if word == "copies":
            return " ".join([word] + [", ".join(f"{name}.{x} {price}" for (name, x), price in given)] * (given != []))
        told = []
        for item in given:
            for part in item if isinstance(item, tuple) else (item,):
                if isinstance(part, Function):
                    told.append("; ".join(part.text))
                elif isinstance(part, Contract):
                    told.append(write_contract(part).partition("; ")[2])
                else:
                    told.append(str(part))
        return " ".join([word, *told])

    def random_command(self, rng, project, heads):
        word = rng.choice(["put"] * 6 + "remove assume assume pin pin unpin undo redo names show contract state sound marks check "
                          "fewest fewest look copies copies alarms".split())
        head = rng.choice(heads)
        kinds = tuple(kind for _, kind in head[1])
        promise = random_contract(rng, ("f", "g"), kinds, head[2])
        if word == "put":
            return word, [random_function(rng, head, heads, ("f", "g"), 6)]
        if word == "assume":
            return word, [head[0], promise]
        if word in ("pin", "unpin"):
            return word, [rng.choice([("sound", head[0]), ("unmarked", head[0]), ("within", head[0], promise), *project.pins])]
        if word in ("undo", "redo", "names", "check", "look"):
            return word, []
        if word == "copies":
            known = list(can_copy(project.whole())) if project.functions and not project.assumed else [("u", "a")]
            return word, [(pair, rng.choice([0, 1, 5, 10 ** 60 - 1])) for pair in rng.sample(known, min(len(known), rng.randint(0, 7)))]
        if word == "state" or (word == "fewest" and rng.random() < 0.5):
            return word, [head[0], rng.randint(0, 7)]
        return word, [head[0]]

    def test_by_chance(self):
        counted = {}
        for seed in range(60):
            rng = random.Random(seed)
            shell, project, many = Shell("f", "g"), Project("f", "g"), 0
            heads = [random_head(rng, called) for called in "uvw"]
            for _ in range(40):
                word, given = self.random_command(rng, project, heads)
                answer, is_fine = self.answer(project, word, *given)
                self.assertEqual(shell(self.command(word, given)), answer)
                many += is_fine
                self.assertEqual([shell.project(), len(shell)], [project, many])
                counted[word, is_fine] = counted.get((word, is_fine), 0) + 1
        for word in "put remove assume pin unpin undo redo show contract state sound marks check fewest look copies alarms".split():
            self.assertGreater(counted.get((word, True), 0), 3, (word, counted))

    def test_contracts_in_commands(self):
        self.assertEqual(self.command("assume", ["g", read_contract("f; (full) full: 0.f")]), "assume g (full) full: 0.f")
        self.assertEqual(self.command("copies", [(("f", "r"), 5), (("f", "s"), 2)]), "copies f.r 5, f.s 2")
        self.assertEqual(self.command("copies", []), "copies")
        self.assertEqual(self.command("put", [KEEP["keep"]]), put(KEEP)[0])


if __name__ == "__main__":
    unittest.main()
