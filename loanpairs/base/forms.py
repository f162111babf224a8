"""The forms of steps and of heads: what stands in their places, and what kinds a step wants."""

from loanpairs.base.words import KINDS, is_any_part, is_name

MAX_ARGUMENTS = 3
# A "variable" and a "function" are names; a "target" and a "part" can be empty, too.
STEP_ROLES = {
    "new": ("variable",),
    "copy": ("variable", "variable", "part"),
    "take": ("variable", "variable", "part"),
    "put": ("variable", "part", "variable"),
    "lend": ("variable", "variable", "part"),
    "move": ("variable", "variable"),
    "touch": ("variable", "part", "way"),
    "drop": ("variable",),
    "call": ("target", "function", "arguments"),
    "skip": (),
    "return": ("target",),
}
ARGUMENT_ROLES = {
    "lend": ("variable", "part"),
    "move": ("variable",),
}


def has_step_roles(value):
    """Whether the value is a tuple of the word of a step and what such a step consists of."""
    return _begins_with_word(value) and _has_roles(value, STEP_ROLES.get(value[0]))


def _is_argument(value):
    return _begins_with_word(value) and _has_roles(value, ARGUMENT_ROLES.get(value[0]))


def _begins_with_word(value):
    return isinstance(value, tuple) and len(value) > 0 and isinstance(value[0], str)


def _has_roles(value, roles):
    """Whether the items behind the word have these roles; there are none for an unknown word."""
    if roles is None or len(value) != len(roles) + 1:
        return False
    return all([_has_role(item, role) for item, role in zip(value[1:], roles)])


def _has_role(item, role):
    if role == "arguments":
        if not isinstance(item, tuple) or len(item) > MAX_ARGUMENTS:
            return False
        return all([_is_argument(argument) for argument in item])
    if role == "way":
        return item in ("full", "look")
    if role in ("part", "target"):
        return is_any_part(item)
    return is_name(item)


def _is_variable_role(role):
    return role in ("target", "variable")


def variables_of(step):
    """The list of the names of variables in a step, in order, as often as they stand there."""
    if step[0] == "call":
        found = [step[1]] + [argument[1] for argument in step[3]]
    else:
        found = [item for item, role in zip(step[1:], STEP_ROLES[step[0]]) if _is_variable_role(role)]
    return [name for name in found if name != ""]


def with_names(step, names):
    """The step with other names of its variables; names is a dict from all of them."""
    if step[0] == "call":
        arguments = tuple([(argument[0], names[argument[1]]) + argument[2:] for argument in step[3]])
        return ("call", names.get(step[1], ""), step[2], arguments)
    items = [
        names.get(item, "") if _is_variable_role(role) else item
        for item, role in zip(step[1:], STEP_ROLES[step[0]])
    ]
    return (step[0], *items)


def suits_kinds(step, kinds, result):
    """Whether a step suits the kinds of the variables, a dict, and the result of its function.

    Whether a call fits the called function is not judged.
    """
    word = step[0]
    told = [kinds.get(name) for name in variables_of(step)]
    if None in told:
        return False
    if word == "return":
        return told == ([] if result == "" else [result])
    if word == "move":
        return told[0] == told[1]
    if word == "lend":
        return told[0] == "look" or told == ["full", "full"] or told == ["full", "own"]
    if word == "touch":
        return step[3] == "look" or told[0] != "look"
    if word == "put":
        return told[0] != "look" and told[1] == "own"
    if word == "take":
        return told[0] == "own" and told[1] != "look"
    if word in ("copy", "new"):
        return told[0] == "own"
    return True


def are_variables(value):
    """Whether the value is a tuple of pairs of a name and a kind."""
    return isinstance(value, tuple) and all([_is_variable(pair) for pair in value])


def _is_variable(value):
    return isinstance(value, tuple) and len(value) == 2 and is_name(value[0]) and value[1] in KINDS


def is_result(value):
    """Whether the value is the kind of a result, or empty."""
    return value == "" or value in KINDS


def write_head(called, parameters, result, variables):
    """The text of the head with these parts."""
    told = f"def {called}({_write_variables(parameters)})"
    if result != "":
        told = f"{told} {result}"
    if variables != ():
        told = f"{told}: {_write_variables(variables)}"
    return told


def _write_variables(variables):
    return ", ".join([f"{name} {kind}" for name, kind in variables])


def read_head(text):
    """The name, parameters, result and other variables in the head with this text, or None."""
    if not isinstance(text, str):
        return None
    front, _, back = text.partition(": ")
    word_and_name, _, told = front.partition("(")
    listed, _, result = told.partition(")")
    called = word_and_name.removeprefix("def ")
    parameters, variables = _guess_variables(listed), _guess_variables(back)
    result = result.removeprefix(" ")
    if not is_name(called) or not are_variables(parameters + variables) or not is_result(result):
        return None
    # So far wrong and missing signs were passed over.
    if write_head(called, parameters, result, variables) != text:
        return None
    return (called, parameters, result, variables)


def _guess_variables(text):
    if text == "":
        return ()
    return tuple([_guess_variable(told) for told in text.split(", ")])


def _guess_variable(text):
    name, _, kind = text.partition(" ")
    return (name, kind)
