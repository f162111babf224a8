"""Values and checks that several tests need."""

import copy

from loanpairs.base.functions import Function
from loanpairs.errors import InvalidNumber, LoanError, UnknownName

LAST_LINES = ("def last(p full) full", "skip -> 1 2", "lend p = p.next -> 1 2", "return p")


def last():
    return Function.from_lines(*LAST_LINES)


def nested(depth, kind, core):
    """The core, packed so many times into a tuple, list or dict."""
    value = core
    for _ in range(depth):
        if kind == "tuple":
            value = (value,)
        elif kind == "list":
            value = [value]
        else:
            value = {"new": value}
    return value


def odd_values():
    """Values of every kind that a check has to bear; none is a word, an index or a step."""
    function = last()
    values = [10 ** 60, -(10 ** 60), 10 ** 99, 10 ** 100 - 1, 1 - 10 ** 100, -1]
    values += [True, False, None, "A", "a b", "a\n", "\n", " ", "a" * 12000, "~" * 12000, "a.b", "0", "def"]
    values += [("",), (99,), (None,), ((), ()), (1, True), ("new",), ("new", "x", "y"), ("x", "new")]
    values += [[], ["a"], ["new", "x"], {}, {"a": "b"}, {1: ()}, {(): []}, [[]], [{}]]
    values += [function, (function,), [function], {"a": function}, (function, function)]
    values += [LoanError("x"), InvalidNumber(3), UnknownName([]), (LoanError("x"),), {LoanError("x"): 1}]
    for kind in ("tuple", "list", "dict"):
        for core in (10 ** 100 - 1, True, None, "a" * 12000, function, {}):
            values += [nested(depth, kind, core) for depth in (1, 2, 9)]
    return values


def check_raises(case, error, action, *given):
    """The call raises just this error, and its arguments stay as they are; the error."""
    before = copy.deepcopy([value for value in given if isinstance(value, (tuple, list, dict, str, int))])
    with case.assertRaises(error) as caught:
        action(*given)
    case.assertIs(caught.exception.__class__, error)
    after = [value for value in given if isinstance(value, (tuple, list, dict, str, int))]
    case.assertEqual([show(value) for value in after], [show(value) for value in before])
    return caught.exception


def show(value):
    """A text that shows a value without the addresses of its objects."""
    if isinstance(value, dict):
        return "{" + ", ".join(f"{show(key)}: {show(value[key])}" for key in value) + "}"
    if isinstance(value, (tuple, list)):
        return f"{type(value).__name__} of " + ", ".join(show(item) for item in value) + ";"
    if isinstance(value, Function):
        return "\n".join(value.text)
    return repr(value)


def check_judge(case, judge, value, wanted):
    """The judge answers with the wanted truth value itself."""
    answer = judge(value)
    case.assertIs(answer, wanted, f"{show(value)[:200]}")
