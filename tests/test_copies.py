"""References that become owners of copies, and the cheapest ones."""

import itertools
import random
import unittest

from loanpairs.core.walks import Walk
from loanpairs.decide.papers import is_certificate, is_sound
from loanpairs.decide.shortest import Fewest
from loanpairs.errors import InvalidOperation, InvalidProgram, TooMany
from loanpairs.use.copies import (
    MAX_PRICED, can_copy, cheapest_copies, copied, copies_certificate, is_copies_certificate,
)
from tests.helper import CACHE, KEEP, LAST, LATE, check_errors, check_judge, check_raises, odd_values, program, wrong_for
from tests.makers import random_program

# Each of r, s and t can be copied; only with r and s copied it is sound.
TWO = program("def f(a own): r look, s look, t full", "lend r = a.f", "lend s = a.g", "touch a full", "touch r look",
              "touch s look", "lend t = a", "touch t full", "return")
# It is unsound whatever is copied.
NEVER = program("def f(a own): r look, x own", "lend r = a", "touch x look", "return")
SIX = program("def f(a own): l look, m look, n look, o look, p look, q look, r look",
              *[f"lend {name} = a" for name in "lmnopqr"], "touch a full", "touch m look", "touch q look", "return")


def sets_by_rank(prices):
    some = [pairs for many in range(len(prices) + 1) for pairs in itertools.combinations(sorted(prices), many)]
    return sorted(some, key=lambda pairs: (sum(prices[pair] for pair in pairs), len(pairs), pairs))


def by_search(told, prices):
    """The first sound set and those ahead of it, found by going through all sets."""
    ahead = []
    for pairs in sets_by_rank(prices):
        if is_sound(copied(told, pairs)):
            return pairs, ahead
        ahead.append(pairs)
    return None, ahead


def lending_program(rng):
    """A program by chance in which copies often help."""
    kinds = {name: rng.choice(["look", "look", "full"]) for name in "rst"}
    lines, held = [], ["a", "b"]
    for _ in range(rng.randint(4, 8)):
        name = rng.choice("rst")
        sources = [x for x in held if x != name and (kinds[name] == "look" or kinds.get(x) != "look")]
        if name not in held or rng.random() < 0.2:
            lines.append(f"lend {name} = {rng.choice(sources)}{rng.choice(['', '.f', '.g'])}")
            held.append(name)
        else:
            used = rng.choice(["a", "b", name, name])
            way = "full" if used in "ab" and rng.random() < 0.4 else "look"
            lines.append(f"touch {used}{rng.choice(['', '.f', '.g'])} {way}")
    variables = ", ".join(f"{name} {kinds[name]}" for name in "rst")
    return program(f"def f(a own, b own): {variables}", *lines, "return")


class CanCopy(unittest.TestCase):
    def test_examples(self):
        self.assertEqual(
            [can_copy(LATE), cheapest_copies(LATE, {("late", "r"): 5}), cheapest_copies(KEEP, {("keep", "b"): 1}),
             cheapest_copies(LATE, {})],
            [(("late", "r"),), (("late", "r"),), (), None])
        self.assertEqual(MAX_PRICED, 6)

    def check(self, wanted, *lines, head="def f(p full, q look, a own) {}: r full, s look, t full", result=""):
        told = program(head.format(result).replace(" :", ":"), *lines, "return t" if result else "return",
                       "def g(a full, b look) full", "return a")
        self.assertEqual([name for called, name in can_copy(told) if called == "f"], wanted)

    def test_each_reason(self):
        self.check(["r", "s", "t"], "skip")
        self.check(["r", "s", "t"], "lend r = a", "lend s = r", "lend t = r", "lend r = p.f", "drop r", "touch r full")
        self.check(["s", "t"], "lend r = a", "lend r = r.f")
        self.check(["r", "t"], "lend s = s")
        self.check(["s"], "move r = t")
        self.check(["r", "t"], "move s = q")
        self.check(["s", "t"], "move p = r")
        self.check(["r", "s", "t"], "lend p = r")
        self.check(["s", "t"], "call r = g(lend a, lend s)")
        self.check(["s"], "call r = g(move t, lend s)")
        self.check(["r"], "call t = g(lend r, move s)")
        self.check(["r"], "call t = g(lend p, move s)")
        self.check(["r", "s"], "lend t = r", result="full")
        self.check(["s"], "call r = g(lend t, lend t)", "lend s = r", result="full")
        self.check(["r", "s", "t"], "lend t = p.f", "put t.g = a", "touch s.f look")

    def test_lines_that_are_not_reached(self):
        told = program("def f(p full) full: r full", "return p", "return r")
        self.assertEqual(can_copy(told), ())

    def test_by_words(self):
        for seed in range(100):
            told = random_program(random.Random(seed), 3, 9)
            wanted = []
            for function in told.functions:
                for name, kind in function.variables:
                    steps = [step for step, _ in function.lines]
                    bad = [step for step in steps if self.forbids(step, name)]
                    if kind != "own" and not bad:
                        wanted.append((function.called, name))
            self.assertEqual(can_copy(told), tuple(sorted(wanted)))

    def forbids(self, step, name):
        if step[0] == "call":
            return step[1] == name or ("move", name) in step[3]
        return (step[0] == "lend" and step[1:3] == (name, name)) or (step[0] in ("move", "return") and name in step)

    def test_several_functions(self):
        self.assertEqual(can_copy(KEEP | LATE | CACHE), (("keep", "b"), ("keep", "c"), ("late", "r")))
        self.assertEqual(can_copy(LAST), ())

    def test_wrong_programs(self):
        check_errors(self, can_copy, (LATE,), [wrong_for(InvalidProgram, but=(LAST,))])


class Copied(unittest.TestCase):
    def test_lines(self):
        made = copied(TWO, (("f", "r"), ("f", "t")))
        self.assertEqual(made.text, (
            "fields f g", "def f(a own): r own, s look, t own", "copy r = a.f", "lend s = a.g", "touch a full",
            "touch r look", "touch s look", "copy t = a", "touch t full", "return"))
        self.assertEqual(copied(TWO, ()), TWO)
        self.assertEqual(TWO.text[1], "def f(a own): r look, s look, t full")

    def test_loans_from_copies_stay(self):
        told = program("def f(a own): r full, s full", "lend r = a.f", "lend s = r.g", "call g(lend r, lend s)", "return",
                       "def g(p look, q look)", "return")
        self.assertEqual(copied(told, (("f", "r"),)).text[1:5],
                         ("def f(a own): r own, s full", "copy r = a.f", "lend s = r.g", "call g(lend r, lend s)"))

    def test_sound_and_unsound(self):
        self.assertEqual([is_sound(TWO), is_sound(copied(TWO, (("f", "r"), ("f", "s"))))], [False, True])
        told = program("def f(a own): r full, s look", "lend r = a", "lend s = r", "lend r = a.f", "touch s look", "return")
        loan = program("def f(p full) full: r full, s full", "lend r = p", "call s = g(lend r)", "return s",
                       "def g(p full) full", "return p")
        look = program("def f(a own): r look, s look", "lend r = a", "lend s = r", "lend r = a", "touch s look", "return")
        self.assertEqual([is_sound(told), is_sound(loan), is_sound(look)], [False, True, True])
        self.assertEqual([is_sound(copied(loan, (("f", "r"),))), is_sound(copied(look, (("f", "r"),)))], [False, False])

    def test_errors(self):
        pairs = (("f", "r"), ("f", "s"))
        values = [pairs[::-1], (("f", "r"), ("f", "r")), (("f", "a"),), (("f", "z"),), (("g", "r"),), list(pairs),
                  (["f", "r"],), ("f", "r"), (("f",),), (("f", "r", ""),), {("f", "r"): 1}, (*pairs, ("f", "a"))]
        check_errors(self, copied, (TWO, pairs), [wrong_for(InvalidProgram, but=(LAST,)), wrong_for(InvalidOperation, *values)])
        check_raises(self, InvalidOperation, copied, LAST, (("last", "p"),))


class Cheapest(unittest.TestCase):
    def test_by_search(self):
        found = {"none": 0, "empty": 0, "some": 0}
        for seed in range(150):
            rng = random.Random(seed)
            told = random_program(rng, 2, 8) if seed < 50 else lending_program(rng)
            known = list(can_copy(told))
            rng.shuffle(known)
            prices = {pair: rng.choice([0, 0, 1, 1, 2, 7, 10 ** 60 - 1]) for pair in known[:rng.randint(0, 4)]}
            first, ahead = by_search(told, prices)
            self.assertEqual(cheapest_copies(told, prices), first)
            given = copies_certificate(told, prices)
            self.assertEqual(given[0], first)
            self.assertEqual(list(given[1]), sorted(ahead))
            check_judge(self, lambda value: is_copies_certificate(told, prices, value), given, True)
            for pairs, lines in given[1].items():
                made = copied(told, pairs)
                self.assertIs(is_certificate(made, ("run", lines)), True)
                self.assertEqual(Walk(made, lines).steps, Fewest(made).fault)
            found["none" if first is None else "some" if first else "empty"] += 1
        self.assertGreater(min(found.values()), 3, found)

    def test_rank(self):
        r, s, t = ("f", "r"), ("f", "s"), ("f", "t")
        for prices, wanted in (({r: 1, s: 1, t: 0}, (r, s)), ({r: 1, s: 1, t: 5}, (r, s)), ({r: 0, s: 0}, (r, s)),
                               ({r: 1, t: 1}, None), ({s: 10 ** 60 - 1, r: 10 ** 60 - 1, t: 0}, (r, s))):
            self.assertEqual(cheapest_copies(TWO, prices), wanted)
        either = program("def f(a own): r look, s look", "lend r = a", "lend s = a", "touch a full", "return")
        self.assertEqual(cheapest_copies(either, {("f", "r"): 0, ("f", "s"): 0}), ())

    def test_equal_sums(self):
        """Either of two references can be copied: the cheaper one, then the first one."""
        told = program("def f(a own): r full, s look", "lend r = a", "lend s = r", "touch r full", "touch s look", "return")
        r, s = ("f", "r"), ("f", "s")
        self.assertEqual([is_sound(copied(told, pairs)) for pairs in ((), (r,), (s,), (r, s))], [False, False, True, True])
        for prices, wanted in (({r: 0, s: 0}, (s,)), ({s: 3}, (s,)), ({r: 3}, None)):
            self.assertEqual(cheapest_copies(told, prices), wanted)
        told = program("def f(a own): r look, s full", "lend r = a", "lend s = a", "touch r look", "touch s look", "return")
        for prices, wanted in (({r: 1, s: 1}, (r,)), ({r: 2, s: 1}, (s,)), ({r: 0, s: 0}, (r,)), ({s: 9}, (s,))):
            self.assertEqual(cheapest_copies(told, prices), wanted)

    def test_sums_of_more_than_sixty_digits(self):
        most = 10 ** 60 - 1
        prices = {("f", name): most for name in "lmnopq"}
        self.assertEqual(cheapest_copies(SIX, prices), (("f", "m"), ("f", "q")))
        prices[("f", "m")] = 0
        self.assertEqual(cheapest_copies(SIX, prices), (("f", "m"), ("f", "q")))
        first, runs = copies_certificate(SIX, prices)
        self.assertEqual(first, (("f", "m"), ("f", "q")))
        self.assertIs(is_copies_certificate(SIX, prices, (first, runs)), True)
        self.assertEqual(sorted(runs), sorted(sets_by_rank(prices)[:sets_by_rank(prices).index(first)]))

    def test_none(self):
        self.assertIsNone(cheapest_copies(NEVER, {("f", "r"): 1}))
        given = copies_certificate(NEVER, {("f", "r"): 1})
        self.assertEqual((given[0], list(given[1])), (None, [(), (("f", "r"),)]))
        self.assertEqual(copies_certificate(NEVER, {}), (None, {(): (("f", ((0, None), (1, None))),)}))

    def test_sound_programs_need_no_copies(self):
        for told in (LAST, CACHE, KEEP):
            self.assertEqual(copies_certificate(told, {pair: 1 for pair in can_copy(told)}), ((), {}))

    def test_prices(self):
        good = {("f", name): 1 for name in "lmnopq"}
        wrong = [[good], {("f", "a"): 1}, {("f", "z"): 1}, {"f": 1}, {("f", "l"): -1}, {("f", "l"): True},
                 {("f", "l"): None}, {("f", "l"): 10 ** 60}, {("f", "l"): "1"}, {("f", "l"): 10 ** 99}, {("l", "f"): 1},
                 {**good, ("f", "r"): -1}, {**good, ("f", "a"): 1}, tuple(good), ()]
        programs = wrong_for(InvalidProgram, but=(LAST,))
        prices = [(value, error) for value, error in wrong_for(InvalidOperation, *wrong) if value != {}]
        for action in (cheapest_copies, copies_certificate, lambda told, given: is_copies_certificate(told, given, None)):
            check_errors(self, action, (SIX, good), [programs, prices], [(1, {**good, ("f", "r"): 1}, TooMany)])
            self.assertEqual(check_raises(self, TooMany, action, SIX, {**good, ("f", "r"): 0}).limit, 6)
        turned = dict(reversed(good.items()))
        self.assertEqual(cheapest_copies(SIX, turned), cheapest_copies(SIX, good))


class Judged(unittest.TestCase):
    prices = {("f", "r"): 2, ("f", "s"): 1, ("f", "t"): 1}

    def setUp(self):
        self.first, self.runs = copies_certificate(TWO, self.prices)

    def judge(self, value, wanted, told=TWO, prices=None):
        prices = self.prices if prices is None else prices
        check_judge(self, lambda given: is_copies_certificate(told, prices, given), value, wanted)

    def test_certificates(self):
        self.assertEqual(self.first, (("f", "r"), ("f", "s")))
        self.judge((self.first, self.runs), True)
        self.judge((self.first, dict(reversed(self.runs.items()))), True)

    def test_other_sets(self):
        for pairs in [*sets_by_rank(self.prices), None, (("f", "s"), ("f", "r")), list(self.first), (("f", "a"),), "", 0]:
            if pairs != self.first:
                self.judge((pairs, self.runs), False)
        higher = (("f", "r"), ("f", "s"), ("f", "t"))
        made = copied(TWO, higher)
        self.assertIs(is_sound(made), True)
        self.judge((higher, {**self.runs, self.first: self.runs[()]}), False)

    def test_lower_sets(self):
        lower = sets_by_rank(self.prices)[2]
        self.judge((lower, {pairs: self.runs[pairs] for pairs in sets_by_rank(self.prices)[:2]}), False)

    def test_keys(self):
        for pairs in self.runs:
            self.judge((self.first, {key: self.runs[key] for key in self.runs if key != pairs}), False)
        self.judge((self.first, {**self.runs, self.first: self.runs[()]}), False)
        self.judge((self.first, {**self.runs, None: self.runs[()]}), False)
        self.judge((self.first, {}), False)
        few = {key: self.runs[key] for key in self.runs if key != ()}
        self.judge((self.first, {**few, "": self.runs[()]}), False)

    def test_runs(self):
        for pairs in self.runs:
            lines = self.runs[pairs]
            (name, way), = lines
            for other in (None, (), ((name, way[:-1]),), ((name, (*way, way[-1])),), ((name, ()),), [lines], list(lines),
                          (("g", way),), "run", ((name, way), 3), 7):
                self.judge((self.first, {**self.runs, pairs: other}), False)
        # This run has a fault without copies, but none with r copied.
        early = (("f", ((0, None), (1, None), (2, None), (3, None))),)
        self.assertEqual(self.runs[()], early)
        self.judge((self.first, {**self.runs, (("f", "r"),): early}), False)

    def test_longer_runs(self):
        told = program("def f(a own): r look", "lend r = a -> 0 1", "touch a full", "touch r look", "return")
        prices = {("f", "r"): 1}
        first, runs = copies_certificate(told, prices)
        self.assertEqual((first, runs), ((("f", "r"),), {(): (("f", ((0, None), (1, None), (2, None))),)}))
        self.judge((first, {(): (("f", ((0, None), (0, None), (1, None), (2, None))),)}), True, told, prices)
        more = (("f", ((0, None),)), ("f", ((0, None), (1, None), (2, None))))
        self.judge((first, {(): more}), True, told, prices)
        self.judge((first, {(): (("f", ((0, None), (1, None))),)}), False, told, prices)

    def test_none(self):
        first, runs = copies_certificate(NEVER, {("f", "r"): 1})
        for value, wanted in (((None, runs), True), ((None, {(): runs[()]}), False), (((), {}), False),
                              (((("f", "r"),), {(): runs[()]}), False), ((None, {}), False)):
            self.judge(value, wanted, NEVER, {("f", "r"): 1})
        self.judge((None, {(): runs[()]}), True, NEVER, {})

    def test_sound_programs(self):
        for value, wanted in ((((), {}), True), ((None, {}), False), (((("keep", "b"),), {}), False), ([(), {}], False)):
            self.judge(value, wanted, KEEP, {("keep", "b"): 1})

    def test_other_values(self):
        for value in [*odd_values(), (self.first,), (self.first, self.runs, None), [self.first, self.runs],
                      (self.first, list(self.runs.items())), (self.runs, self.first)]:
            self.judge(value, False)
        for value in odd_values():
            self.judge((value, self.runs), False)
            self.judge((self.first, value), False)
            self.judge((self.first, {**self.runs, (): value}), False)


if __name__ == "__main__":
    unittest.main()
