"""Contracts: what callers have to know of a function."""

from loanpairs.base.forms import is_result, parts_of, suits_called
from loanpairs.base.functions import MAX_PARAMETERS, Function
from loanpairs.base.programs import function_of
from loanpairs.base.words import KINDS, is_fields, is_index, is_name
from loanpairs.decide.search import Flow
from loanpairs.decide.tables import Table, faults_of_points
from loanpairs.errors import InvalidContract, InvalidFunction, InvalidOperation

PARAMETERS = ("a", "b", "c")
# The judged function has this key, which is no name, so that its calls of itself lead to its contract.
JUDGED = ""


def _are_kinds(value):
    """Whether the value is the kinds of the parameters of some function."""
    return isinstance(value, tuple) and len(value) <= MAX_PARAMETERS and all([kind in KINDS for kind in value])


def _is_outcome(fields, kinds, result, value):
    """Whether the value is an outcome that these kinds allow."""
    if not isinstance(value, tuple):
        return False
    if result in ("", "own"):
        return value == (("return",) if result == "" else ("own",))
    if len(value) != 3 or value[0] != "from" or not is_index(value[1], len(kinds)):
        return False
    if value[2] != "" and value[2] not in fields:
        return False
    return kinds[value[1]] == "full" or (kinds[value[1]] == "look" and result == "look")


def _are_outcomes(fields, kinds, result, value):
    """Whether the value is a tuple of outcomes that these kinds allow, none of them twice."""
    if not isinstance(value, tuple) or not all([_is_outcome(fields, kinds, result, item) for item in value]):
        return False
    return len(set(value)) == len(value)


def _closed_form(fields, outcomes):
    """All that these outcomes have, ascending."""
    found = list(outcomes)
    for index in range(MAX_PARAMETERS):
        parts = [outcome[2] for outcome in outcomes if outcome[0] == "from" and outcome[1] == index]
        if all([field in parts for field in fields]):
            found.append(("from", index, ""))
        if len(fields) == 1 and parts != []:
            found.append(("from", index, fields[0]))
    return tuple(sorted(set(found)))


def write_promise(kinds, result, outcomes):
    """The text of a contract without its fields."""
    told = ", ".join(kinds)
    head = f"({told})" if result == "" else f"({told}) {result}"
    words = [_write_outcome(outcome) for outcome in outcomes] if outcomes != () else ["never"]
    return " ".join([f"{head}:", *words])


def _write_outcome(outcome):
    if outcome[0] != "from":
        return outcome[0]
    return str(outcome[1]) if outcome[2] == "" else f"{outcome[1]}.{outcome[2]}"


def _lines_with(outcomes):
    """The lines of a function that has just these outcomes and no fault."""
    if outcomes == ():
        return ((("skip",), (0,)),)
    if outcomes == (("return",),):
        return ((("return", ""), ()),)
    if outcomes == (("own",),):
        return ((("new", "r"), (1,)), (("return", "r"), ()))
    lines = []
    for _, index, part in outcomes:
        here = len(lines)
        nexts = (here + 1, here + 2) if here + 2 < 2 * len(outcomes) else (here + 1,)
        lines.append((("lend", "r", PARAMETERS[index], part), nexts))
        lines.append((("return", "r"), ()))
    return tuple(lines)


class Contract:
    """What callers have to know of a function; it never changes."""

    def __init__(self, fields, kinds, result, outcomes):
        if not is_fields(fields) or not _are_kinds(kinds) or not is_result(result):
            raise InvalidContract("a contract has fields, at most three kinds, and a kind or nothing as its result")
        if not _are_outcomes(fields, kinds, result, outcomes):
            raise InvalidContract("outcomes are such as the kinds allow, none of them twice")
        self._fields = fields
        self._kinds = kinds
        self._result = result
        self._outcomes = tuple(sorted(outcomes))
        self._closed = _closed_form(fields, outcomes)

    @classmethod
    def of(cls, program, name):
        """The contract with the outcomes of a function in the least table."""
        function = function_of(program, name)
        outcomes = with_indices(function, Table(program).outcomes_of(name))
        return cls(program.fields, kinds_of(function), function.result, outcomes)

    @property
    def fields(self):
        """Its fields."""
        return self._fields

    @property
    def kinds(self):
        """The kinds of the parameters."""
        return self._kinds

    @property
    def result(self):
        """The kind of the result, or an empty string."""
        return self._result

    @property
    def outcomes(self):
        """Its own outcomes, ascending."""
        return self._outcomes

    @property
    def closed(self):
        """The outcomes of its closed form, ascending."""
        return self._closed

    def fits(self, other):
        """Whether it is within the other contract."""
        self._check_like(other)
        return all([outcome in other._closed for outcome in self._outcomes])

    def _check_like(self, other):
        if not are_like(self, other):
            raise InvalidOperation("this is no contract with the same fields, kinds and result")

    def function(self, called):
        """A function with this name that is sound by itself and has just the outcomes of the closed form."""
        parameters = tuple([(name, kind) for name, kind in zip(PARAMETERS, self._kinds)])
        variables = () if self._result == "" else (("r", self._result),)
        return Function(called, parameters, self._result, variables, _lines_with(self._closed))

    def __or__(self, other):
        self._check_like(other)
        outcomes = tuple(sorted(set(self._closed) | set(other._closed)))
        return Contract(self._fields, self._kinds, self._result, outcomes)

    def __and__(self, other):
        self._check_like(other)
        outcomes = tuple([outcome for outcome in self._closed if outcome in other._closed])
        return Contract(self._fields, self._kinds, self._result, outcomes)

    def __contains__(self, x):
        return _is_outcome(self._fields, self._kinds, self._result, x) and x in self._closed

    def __len__(self):
        return len(self._closed)

    def __bool__(self):
        return bool(self._closed)

    def __eq__(self, other):
        return (
            isinstance(other, Contract)
            and self._fields == other._fields
            and self._kinds == other._kinds
            and self._result == other._result
            and self._closed == other._closed
        )

    def __str__(self):
        return str(write_promise(self._kinds, self._result, self._closed))


def are_like(one, other):
    """Whether the other value is a contract with the same fields, kinds and result as the first one."""
    if not isinstance(other, Contract):
        return False
    return one.fields == other.fields and one.kinds == other.kinds and one.result == other.result


def kinds_of(function):
    """The kinds of the parameters of a function."""
    return tuple([kind for _, kind in function.parameters])


def with_indices(function, outcomes):
    """Outcomes of a function with the indices of its parameters in the place of their names, ascending."""
    places = {name: index for index, (name, _) in enumerate(function.parameters)}
    told = [
        ("from", places[outcome[1]], outcome[2]) if outcome[0] == "from" else outcome for outcome in outcomes
    ]
    return tuple(sorted(told))


def contract_in(table, name):
    """The contract with the outcomes that a function has in the least table of its program."""
    function = table.program[name]
    outcomes = with_indices(function, table.outcomes_of(name))
    return Contract(table.program.fields, kinds_of(function), function.result, outcomes)


def contracts_of(program):
    """A dict from the names of the functions to their contracts."""
    table = Table(program)
    return {name: contract_in(table, name) for name in program.names}


def suits_contracts(function, fields, contracts):
    """Whether the parts in a function are of these fields, and its calls suit the contracts, a dict."""
    kinds = {name: function.kind(name) for name in function.names}
    for step, _ in function.lines:
        if not all([part == "" or part in fields for part in parts_of(step)]):
            return False
        if step[0] == "call" and not _suits_contract(step, kinds, contracts.get(step[2])):
            return False
    return True


def _suits_contract(step, kinds, contract):
    """Whether there is a contract and a call suits it."""
    if contract is None:
        return False
    parameters = [(name, kind) for name, kind in zip(PARAMETERS, contract.kinds)]
    return suits_called(step, kinds, parameters, contract.result)


def _check_contracts(function, contracts):
    """Refuses what is no function, and what are no contracts that suit it."""
    if not isinstance(function, Function):
        raise InvalidFunction("this is no function")
    if not isinstance(contracts, dict) or not all([is_name(name) for name in contracts]):
        raise InvalidContract("contracts are told by a dict from names")
    if not all([isinstance(contract, Contract) for contract in contracts.values()]):
        raise InvalidContract("contracts are told by a dict to contracts")
    own = contracts.get(function.called)
    if own is None or own.kinds != kinds_of(function) or own.result != function.result:
        raise InvalidContract("no contract suits for the function itself")
    if not all([contract.fields == own.fields for contract in contracts.values()]):
        raise InvalidContract("all contracts have the same fields")
    if not suits_contracts(function, own.fields, contracts):
        raise InvalidContract("the parts and the calls of the function do not suit the contracts")


def _judged_by(function, contracts):
    """The faults and the outcomes of a function in its table by contracts, with indices."""
    functions = {name: contracts[name].function(name) for name in function.calls}
    functions[JUDGED] = function
    points, outcomes = Flow(functions).least()[JUDGED]
    return (faults_of_points(functions, JUDGED, points), with_indices(function, outcomes))


def does_keep(function, contracts):
    """Whether a function keeps contracts, a dict from names."""
    _check_contracts(function, contracts)
    faults, outcomes = _judged_by(function, contracts)
    return faults == [] and all([outcome in contracts[function.called] for outcome in outcomes])


def outcomes_by(function, contracts):
    """The outcomes of a function in its table by contracts, with indices, ascending."""
    _check_contracts(function, contracts)
    _, outcomes = _judged_by(function, contracts)
    return outcomes


def _check_two(one, other):
    for contract in (one, other):
        if not isinstance(contract, Contract):
            raise InvalidContract("this is no contract")
    if not are_like(one, other):
        raise InvalidOperation("the contracts have not the same fields, kinds and result")


def parting(one, other):
    """A function main that has a fault if the first contract is that of g, and none if the other one is."""
    _check_two(one, other)
    missing = [outcome for outcome in one.outcomes if outcome not in other]
    if missing == []:
        raise InvalidOperation("the first contract is within the other one")
    owners = [name for name, _ in zip(PARAMETERS, one.kinds)]
    arguments = [
        ("move", name) if kind == "own" else ("lend", name, "") for name, kind in zip(PARAMETERS, one.kinds)
    ]
    target = "" if one.result == "" else "r"
    steps = [("new", name) for name in owners] + [("call", target, "g", tuple(arguments))]
    steps = steps + _telling_steps(missing[0], other)
    lines = [(step, (index + 1,)) for index, step in enumerate(steps)] + [(("return", ""), ())]
    variables = [(name, "own") for name in owners] + [("e", "own"), ("s", "look")]
    if target != "":
        variables.append((target, one.result))
    return Function("main", (), "", tuple(variables), tuple(lines))


def _telling_steps(outcome, other):
    """Steps behind a call that have a fault if it has this outcome, but not by outcomes that the other contract has."""
    if outcome[0] != "from":
        # No outcome of this result is left to the other contract, so with it these steps are never done.
        return [("touch", "e", "", "look")]
    _, index, part = outcome
    if part == "":
        # Some field is not there, as otherwise the other contract would have the whole.
        written = [field for field in other.fields if ("from", index, field) not in other][0]
        lent = ""
    else:
        # What is lent on from the whole reaches into its owner by the lent field, from a field by this one.
        written = part
        lent = [field for field in (*other.fields, part) if field != part or len(other.fields) == 1][0]
    return [
        ("lend", "s", "r", lent), ("touch", PARAMETERS[index], written, "full"), ("touch", "s", "", "look"),
    ]


def is_parting(one, other, value):
    """Whether the value is a function as parting makes them."""
    _check_two(one, other)
    if not isinstance(value, Function) or value.called != "main":
        return False
    # There is no contract for other calls, so they suit none.
    if value.parameters != () or value.result != "" or not suits_contracts(value, one.fields, {"g": one}):
        return False
    faults, _ = _judged_by(value, {"g": one})
    others, _ = _judged_by(value, {"g": other})
    return faults != [] and others == []
