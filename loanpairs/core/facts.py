"""Facts about the variables of a function, and what its steps do to them."""

from loanpairs.base.programs import function_of, line_of
from loanpairs.base.words import do_ascend
from loanpairs.core.actions import facts_behind, go_through, outcomes_of_return, plan_of
from loanpairs.errors import InvalidOperation, InvalidState


def _kind_of(function, value):
    """The kind of a variable, or an empty string if the value is none."""
    return function.kind(value) if value in function else ""


def _parameter_kind(function, value):
    """The kind of a parameter, or an empty string if the value is none."""
    return "".join([kind for name, kind in function.parameters if name == value])


def _can_lead(source, target):
    """Whether something of the kind target can be lent from something of the kind source."""
    return source != "" and (target == "look" or source != "look")


def _is_fact_of(program, function, value):
    if not isinstance(value, tuple) or len(value) not in (2, 4):
        return False
    kind = _kind_of(function, value[1])
    if kind == "":
        return False
    if len(value) == 2:
        return value[0] in ("empty", "held") or (value[0] == "ended" and kind != "own")
    if kind == "own" or (value[3] != "" and value[3] not in program.fields):
        return False
    if value[0] == "into":
        return value[2] != value[1] and _can_lead(_kind_of(function, value[2]), kind)
    if value[0] == "from":
        passed = _parameter_kind(function, value[2])
        return passed != "own" and _can_lead(passed, kind)
    return False


def is_fact(program, name, value):
    """Whether the value is a fact of this function."""
    return _is_fact_of(program, function_of(program, name), value)


def is_state(program, name, value):
    """Whether the value is an ascending tuple of facts of this function."""
    function = function_of(program, name)
    if not isinstance(value, tuple) or not all([_is_fact_of(program, function, fact) for fact in value]):
        return False
    return do_ascend(value)


def is_outcome(program, name, value):
    """Whether the value can be an outcome of this function by its kinds."""
    function = function_of(program, name)
    if not isinstance(value, tuple):
        return False
    if function.result in ("", "own"):
        return value == (("return",) if function.result == "" else ("own",))
    if len(value) != 3 or value[0] != "from" or (value[2] != "" and value[2] not in program.fields):
        return False
    passed = _parameter_kind(function, value[1])
    return passed != "own" and _can_lead(passed, function.result)


def start_of(function):
    """The state at the beginning of a function."""
    facts = [("held", parameter) for parameter, _ in function.parameters]
    facts = facts + [("empty", variable) for variable, _ in function.variables]
    return tuple(sorted(facts + [("from", p, p, "") for p, kind in function.parameters if kind != "own"]))


def start_state(program, name):
    """The state at the beginning of this function."""
    return start_of(function_of(program, name))


def uses_at(program, name, index):
    """The uses of the step in this line, in order, as triples of a variable, a part and a way."""
    line_of(program, name, index)
    _, groups = plan_of(program, name, index, None)
    used = [action[1:] for group in groups for action in group if action[0] == "use"]
    return tuple([use for use in used if use[0] in program[name]])


def _check_state(program, name, index, state):
    line_of(program, name, index)
    if not is_state(program, name, state):
        raise InvalidState("this is no state of the function")


def faults_at(program, name, index, state):
    """The faults that the step in this line has in a state, in the order of its actions."""
    _check_state(program, name, index, state)
    faults, _ = go_through(plan_of(program, name, index, None), list(state))
    return tuple(faults)


def outcomes_at(program, name, index, state):
    """The outcomes that the return in this line has in a state, ascending; other steps have none."""
    _check_state(program, name, index, state)
    return tuple(sorted(outcomes_of_return(program, name, index, state)))


def state_behind(program, name, index, state, outcome=None):
    """The state behind the step in this line; for a call, the called walk has this outcome."""
    _check_state(program, name, index, state)
    step, _ = program[name][index]
    if step[0] == "return":
        raise InvalidOperation("nothing is behind a return")
    if step[0] != "call" and outcome is not None:
        raise InvalidOperation("only calls have outcomes")
    if step[0] == "call" and not is_outcome(program, step[2], outcome):
        raise InvalidOperation("this cannot be an outcome of the called function")
    return facts_behind(plan_of(program, name, index, outcome), list(state))
