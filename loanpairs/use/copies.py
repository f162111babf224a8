"""References that become owners of copies."""

from loanpairs.base.forms import variables_of
from loanpairs.base.functions import Function
from loanpairs.base.programs import Program, check_program
from loanpairs.base.words import is_integer
from loanpairs.decide.papers import is_certificate, is_sound
from loanpairs.decide.shortest import Fewest
from loanpairs.errors import InvalidOperation, TooMany
from loanpairs.use.advice import is_ascending_of

MAX_PRICED = 6


def _kept_by(step):
    """The list of the references that cannot be copied because of a step, if they stand there."""
    if step[0] == "lend":
        return [step[1]] if step[1] == step[2] else []
    if step[0] in ("move", "return"):
        return variables_of(step)
    if step[0] == "call":
        return [step[1]] + [argument[1] for argument in step[3] if argument[0] == "move"]
    return []


def can_copy(program):
    """The pairs of a function and a variable of all references that can be copied, ascending."""
    check_program(program)
    found = []
    for function in program.functions:
        kept = {name: True for step, _ in function.lines for name in _kept_by(step)}
        names = sorted([name for name, kind in function.variables if kind != "own" and name not in kept])
        found.extend([(function.called, name) for name in names])
    return tuple(found)


def copied(program, pairs):
    """The program with these references copied."""
    if not is_ascending_of(can_copy(program), pairs):
        raise InvalidOperation("these are not references that can be copied, ascending")
    return _copied(program, pairs)


def _copied(program, pairs):
    functions = tuple([_copied_function(function, pairs) for function in program.functions])
    return Program(program.fields, functions)


def _copied_function(function, pairs):
    name = function.called
    variables = tuple([(other, "own" if (name, other) in pairs else kind) for other, kind in function.variables])
    lines = []
    for step, nexts in function.lines:
        is_copy = step[0] == "lend" and (name, step[1]) in pairs
        lines.append((("copy", *step[1:]) if is_copy else step, nexts))
    return Function(name, function.parameters, function.result, variables, tuple(lines))


def _check_prices(program, prices):
    """Refuses what is no dict from at most six references that can be copied to prices."""
    known = can_copy(program)
    if not isinstance(prices, dict) or not all([pair in known for pair in prices]):
        raise InvalidOperation("prices are told by a dict from references that can be copied")
    if not all([is_integer(price) and price >= 0 for price in prices.values()]):
        raise InvalidOperation("a price is an integer of at least 0")
    if len(prices) > MAX_PRICED:
        raise TooMany(MAX_PRICED)


def _ranked_sets(prices):
    """The list of all sets of references with prices, by rank."""
    chosen = [()]
    for reference in sorted(list(prices)):
        chosen = chosen + [(*pairs, reference) for pairs in chosen]
    ranked = sorted([(_sum_of(prices, pairs), len(pairs), pairs) for pairs in chosen])
    return [pairs for _, _, pairs in ranked]


def _sum_of(prices, pairs):
    return sum([prices[pair] for pair in pairs])


def _split_sets(program, prices):
    """The first set by rank with which the program is sound, or None, and the list of those ahead of it."""
    ahead = []
    for pairs in _ranked_sets(prices):
        if is_sound(_copied(program, pairs)):
            return (pairs, ahead)
        ahead.append(pairs)
    return (None, ahead)


def cheapest_copies(program, prices):
    """The first set by rank with which the program is sound, or None."""
    _check_prices(program, prices)
    first, _ = _split_sets(program, prices)
    return first


def copies_certificate(program, prices):
    """The first set by rank with which the program is sound, or None, and runs for all sets ahead of it."""
    _check_prices(program, prices)
    first, ahead = _split_sets(program, prices)
    return (first, {pairs: Fewest(_copied(program, pairs)).faulty_run() for pairs in sorted(ahead)})


def is_copies_certificate(program, prices, value):
    """Whether the value is a certificate for the prices."""
    _check_prices(program, prices)
    if not isinstance(value, tuple) or len(value) != 2 or not isinstance(value[1], dict):
        return False
    first, runs = value
    ahead = _ranked_sets(prices)
    if first is not None:
        if first not in ahead or not is_sound(_copied(program, first)):
            return False
        ahead = ahead[:ahead.index(first)]
    if len(runs) != len(ahead) or not all([pairs in runs for pairs in ahead]):
        return False
    return all([is_certificate(_copied(program, pairs), ("run", runs[pairs])) for pairs in ahead])
