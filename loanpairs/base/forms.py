"""The forms of steps and of heads: what stands in their places, and what kinds a step wants."""

from loanpairs.base.words import KINDS, LETTERS, are_different_names, is_any_part, is_name

MAX_ARGUMENTS = 3
# A "variable" and a "function" are names; a "target" and a "part" can be empty, too.
STEP_ROLES = {
    "new": ("variable",),
    "copy": ("variable", "variable", "part"),
    "take": ("variable", "variable", "part"),
    "put": ("variable", "part", "variable"),
    "lend": ("variable", "variable", "part"),
    "move": ("variable", "variable"),
    "touch": ("variable", "part", "way"),
    "drop": ("variable",),
    "call": ("target", "function", "arguments"),
    "skip": (),
    "return": ("target",),
}
ARGUMENT_ROLES = {
    "lend": ("variable", "part"),
    "move": ("variable",),
}


def has_step_roles(value):
    """Whether the value is a tuple of the word of a step and what such a step consists of."""
    return _begins_with_word(value) and _has_roles(value, STEP_ROLES.get(value[0]))


def _is_argument(value):
    return _begins_with_word(value) and _has_roles(value, ARGUMENT_ROLES.get(value[0]))


def _begins_with_word(value):
    return isinstance(value, tuple) and len(value) > 0 and isinstance(value[0], str)


def _has_roles(value, roles):
    """Whether the items behind the word have these roles; there are none for an unknown word."""
    if roles is None or len(value) != len(roles) + 1:
        return False
    return all([_has_role(item, role) for item, role in zip(value[1:], roles)])


def _has_role(item, role):
    if role == "arguments":
        if not isinstance(item, tuple) or len(item) > MAX_ARGUMENTS:
            return False
        return all([_is_argument(argument) for argument in item])
    if role == "way":
        return item in ("full", "look")
    if role in ("part", "target"):
        return is_any_part(item)
    return is_name(item)


def _is_variable_role(role):
    return role in ("target", "variable")


def variables_of(step):
    """The list of the names of variables in a step, in order, as often as they stand there."""
    if step[0] == "call":
        found = [step[1]] + [argument[1] for argument in step[3]]
    else:
        found = [item for item, role in zip(step[1:], STEP_ROLES[step[0]]) if _is_variable_role(role)]
    return [name for name in found if name != ""]


def with_names(step, names):
    """The step with other names of its variables; names is a dict from all of them."""
    if step[0] == "call":
        arguments = tuple([(argument[0], names[argument[1]]) + argument[2:] for argument in step[3]])
        return ("call", names.get(step[1], ""), step[2], arguments)
    items = [
        names.get(item, "") if _is_variable_role(role) else item
        for item, role in zip(step[1:], STEP_ROLES[step[0]])
    ]
    return (step[0], *items)


def is_renaming(names, value):
    """Whether the value is a dict from just these names to different names."""
    if not isinstance(value, dict) or len(value) != len(names):
        return False
    return all([name in value for name in names]) and are_different_names(list(value.values()))


def parts_of(step):
    """The list of the parts in a step."""
    if step[0] == "call":
        return [argument[2] for argument in step[3] if argument[0] == "lend"]
    return [item for item, role in zip(step[1:], STEP_ROLES[step[0]]) if role == "part"]


def with_words(step, fields, functions):
    """The step with other names of fields and functions, dicts from all of them."""
    if step[0] == "call":
        arguments = tuple([_with_fields(argument, ARGUMENT_ROLES[argument[0]], fields) for argument in step[3]])
        return ("call", step[1], functions[step[2]], arguments)
    return _with_fields(step, STEP_ROLES[step[0]], fields)


def _with_fields(told, roles, fields):
    """A step or an argument, whose items have these roles, with other names of fields."""
    items = [fields.get(item, "") if role == "part" else item for item, role in zip(told[1:], roles)]
    return (told[0], *items)


def suits_called(step, kinds, parameters, result):
    """Whether a call suits the kinds of the variables, a dict, and what the called function has."""
    if step[1] == "" or result == "":
        suits = step[1] == result
    else:
        suits = kinds[step[1]] == result
    if not suits or len(step[3]) != len(parameters):
        return False
    return all([
        _suits_parameter(argument[0], kinds[argument[1]], wanted)
        for argument, (_, wanted) in zip(step[3], parameters)
    ])


def _suits_parameter(word, kind, wanted):
    if word == "move":
        return kind == wanted
    return wanted == "look" or (wanted == "full" and kind != "look")


def names_beside(names, others):
    """A dict from other names to new ones, which are not among the names."""
    free = [letter for letter in LETTERS if letter not in names]
    return {other: letter for other, letter in zip(others, free)}


def lines_instead(lines, index, called, names):
    """The lines in which those of the called function stand for the call in this line.

    names is a dict from the variables of the called function to their new names.
    """
    step, nexts = lines[index]
    begin = _beginning(step, called.parameters, names)
    first_copied = len(lines) + len(begin)
    first_drop = first_copied + len(called.lines)
    ends = list(names.values())
    told = [*lines[:index], (("skip",), (len(lines),)), *lines[index + 1:]]
    told = told + [(new, (len(lines) + at + 1,)) for at, new in enumerate(begin)]
    returned = 0
    for copied, ways in called.lines:
        if copied[0] != "return":
            told.append((with_names(copied, names), tuple([way + first_copied for way in ways])))
            continue
        behind = nexts if ends == [] else (first_drop + returned * len(ends),)
        told.append((_instead_of_return(step[1], copied[1], names), behind))
        returned = returned + 1
    for _ in range(returned):
        told = told + [(("drop", name), (len(told) + at + 1,)) for at, name in enumerate(ends[:-1])]
        told = told + [(("drop", name), nexts) for name in ends[-1:]]
    return tuple(told)


def _beginning(step, parameters, names):
    """The steps that give the arguments of a call to new variables and touch those that are references."""
    gives, touches = [], []
    for argument, (name, kind) in zip(step[3], parameters):
        gives.append((argument[0], names[name]) + argument[1:])
        if kind != "own":
            touches.append(("touch", names[name], "", kind))
    return gives + touches


def _instead_of_return(target, returned, names):
    return ("skip",) if target == "" else ("move", target, names[returned])


def suits_kinds(step, kinds, result):
    """Whether a step suits the kinds of the variables, a dict, and the result of its function.

    Whether a call fits the called function is not judged.
    """
    word = step[0]
    told = [kinds.get(name) for name in variables_of(step)]
    if None in told:
        return False
    if word == "return":
        return told == ([] if result == "" else [result])
    if word == "move":
        return told[0] == told[1]
    if word == "lend":
        return told[0] == "look" or told == ["full", "full"] or told == ["full", "own"]
    if word == "touch":
        return step[3] == "look" or told[0] != "look"
    if word == "put":
        return told[0] != "look" and told[1] == "own"
    if word == "take":
        return told[0] == "own" and told[1] != "look"
    if word in ("copy", "new"):
        return told[0] == "own"
    return True


def are_variables(value):
    """Whether the value is a tuple of pairs of a name and a kind."""
    return isinstance(value, tuple) and all([_is_variable(pair) for pair in value])


def _is_variable(value):
    return isinstance(value, tuple) and len(value) == 2 and is_name(value[0]) and value[1] in KINDS


def is_result(value):
    """Whether the value is the kind of a result, or empty."""
    return value == "" or value in KINDS


def write_head(called, parameters, result, variables):
    """The text of the head with these parts."""
    told = f"def {called}({_write_variables(parameters)})"
    if result != "":
        told = f"{told} {result}"
    if variables != ():
        told = f"{told}: {_write_variables(variables)}"
    return told


def _write_variables(variables):
    return ", ".join([f"{name} {kind}" for name, kind in variables])


def read_head(text):
    """The name, parameters, result and other variables in the head with this text, or None."""
    if not isinstance(text, str):
        return None
    front, _, back = text.partition(": ")
    word_and_name, _, told = front.partition("(")
    listed, _, result = told.partition(")")
    called = word_and_name.removeprefix("def ")
    parameters, variables = _guess_variables(listed), _guess_variables(back)
    result = result.removeprefix(" ")
    if not is_name(called) or not are_variables(parameters + variables) or not is_result(result):
        return None
    # So far wrong and missing signs were passed over.
    if write_head(called, parameters, result, variables) != text:
        return None
    return (called, parameters, result, variables)


def _guess_variables(text):
    if text == "":
        return ()
    return tuple([_guess_variable(told) for told in text.split(", ")])


def _guess_variable(text):
    name, _, kind = text.partition(" ")
    return (name, kind)
