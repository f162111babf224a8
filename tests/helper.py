"""Values and checks that several tests need."""

import copy
import itertools

from loanpairs.base.functions import Function
from loanpairs.base.programs import Program
from loanpairs.core.walks import Walk
from loanpairs.decide.shortest import Fewest
from loanpairs.decide.tables import Table
from loanpairs.errors import InvalidNumber, LoanError, UnknownName
from loanpairs.project.project import Project
from loanpairs.text.shell import Shell
from loanpairs.use.contracts import Contract

LAST_LINES = ("def last(p full) full", "skip -> 1 2", "lend p = p.next -> 1 2", "return p")
LAST = Program.from_lines("fields next val", *LAST_LINES)
CACHE = Program.from_lines(
    "fields next val", "def get(m full) full: r full",
    "lend r = m.val -> 1 2", "return r", "touch m full", "lend r = m.val", "return r",
)
LATE = Program.from_lines(
    "fields next val", "def late(a own): r look", "lend r = a.val", "touch a.val full", "touch r look", "return",
)
KEEP = Program.from_lines(
    "fields next val", "def keep(a own): b full, c look",
    "lend b = a", "lend c = b", "touch a look", "touch c look", "return",
)


def last():
    return Function.from_lines(*LAST_LINES)


def program(*lines, fields="f g"):
    return Program.from_lines(f"fields {fields}", *lines)


def nested(depth, kind, core):
    """The core, packed so many times into a tuple, list or dict."""
    value = core
    for _ in range(depth):
        if kind == "tuple":
            value = (value,)
        elif kind == "list":
            value = [value]
        else:
            value = {"new": value}
    return value


def odd_values():
    """Values of every kind that a check has to bear; none is a word, an index or a step."""
    function = last()
    walk = Walk.begin(LAST, "last").longer(0)
    values = [LAST, walk, (LAST, walk), {"a": walk}]
    contract = Contract(("left",), ("full",), "", (("return",),))
    values += [contract, (contract,), {"left": contract}, Project("next"), Shell("next"), Table(LAST), Fewest(LAST)]
    values += [10 ** 60, -(10 ** 60), 10 ** 99, 10 ** 100 - 1, 1 - 10 ** 100, -1]
    values += [True, False, None, "A", "a b", "a\n", "\n", " ", "a" * 12000, "~" * 12000, "a.b", "0", "def"]
    values += [("",), (99,), (None,), ((), ()), (1, True), ("new",), ("new", "x", "y"), ("x", "new")]
    values += [[], ["a"], ["new", "x"], {}, {"a": "b"}, {1: ()}, {(): []}, [[]], [{}]]
    values += [function, (function,), [function], {"a": function}, (function, function)]
    values += [LoanError("x"), InvalidNumber(3), UnknownName([]), (LoanError("x"),), {LoanError("x"): 1}]
    for kind in ("tuple", "list", "dict"):
        for core in (10 ** 100 - 1, True, None, "a" * 12000, function, {}):
            values += [nested(depth, kind, core) for depth in (1, 2, 9)]
    return values


def check_raises(case, error, action, *given):
    """The call raises just this error, and its arguments stay as they are; the error."""
    before = copy.deepcopy([value for value in given if isinstance(value, (tuple, list, dict, str, int))])
    with case.assertRaises(error, msg=show(given)[:300]) as caught:
        action(*given)
    case.assertIs(caught.exception.__class__, error, show(given)[:300])
    after = [value for value in given if isinstance(value, (tuple, list, dict, str, int))]
    case.assertEqual([show(value) for value in after], [show(value) for value in before])
    return caught.exception


def show(value):
    """A text that shows a value without the addresses of its objects."""
    if isinstance(value, dict):
        return "{" + ", ".join(f"{show(key)}: {show(value[key])}" for key in value) + "}"
    if isinstance(value, (tuple, list)):
        return f"{type(value).__name__} of " + ", ".join(show(item) for item in value) + ";"
    if isinstance(value, (Function, Program)):
        return "\n".join(value.text)
    if isinstance(value, Contract):
        return show((value.fields, value.kinds, value.result, value.outcomes))
    if isinstance(value, Project):
        return show((value.fields, value.functions, value.assumed, value.pins))
    if isinstance(value, Walk):
        return show(value.lines)
    if isinstance(value, (Shell, Table, Fewest)):
        return str(value)
    return repr(value)


def check_judge(case, judge, value, wanted):
    """The judge answers with the wanted truth value itself, and the value stays as it is."""
    before = show(value)
    answer = judge(value)
    case.assertIs(answer, wanted, before[:200])
    case.assertEqual(show(value), before)


def check_errors(case, action, good, wrong, late=()):
    """Each wrong argument alone, and each two of them: the error of the first parameter is raised.

    wrong has for each parameter a list of pairs of a value and its error. The errors of the pairs in
    late, each of a position, a value and its error, come only if no other one applies.
    """
    action(*good)
    single = [(at, value, error) for at, pairs in enumerate(wrong) for value, error in pairs]
    for at, value, error in [*single, *late]:
        check_kept(case, check_raises(case, error, action, *changed(good, (at, value))), value)
    few = [(at, value, error) for at, pairs in enumerate(wrong) for value, error in pairs[::11]]
    for one, other in itertools.combinations(few, 2):
        if one[0] != other[0]:
            given = changed(good, one[:2], other[:2])
            check_kept(case, check_raises(case, one[2], action, *given), one[1])
    for one, other in itertools.product(few, late):
        if one[0] != other[0]:
            given = changed(good, one[:2], other[:2])
            check_kept(case, check_raises(case, one[2], action, *given), one[1])


def changed(values, *pairs):
    told = list(values)
    for at, value in pairs:
        told[at] = value
    return told


def check_kept(case, error, value):
    """What an error keeps is the very value that was wrong."""
    for name in ("wanted", "given", "point"):
        if hasattr(error, name):
            case.assertIs(getattr(error, name), value)


def wrong_for(error, *more, but=()):
    """Pairs of odd values, and of more ones, and an error."""
    values = [value for value in odd_values() if not any(value is other for other in but)]
    return [(value, error) for value in [*values, 10 ** 60 - 1, *more]]
