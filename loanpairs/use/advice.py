"""What can be look in the place of full, where marks are needed, and programs without touches."""

from loanpairs.base.functions import Function
from loanpairs.base.programs import Program, check_program
from loanpairs.base.words import do_ascend
from loanpairs.decide.shortest import Fewest
from loanpairs.decide.tables import Table
from loanpairs.errors import InvalidFunction, InvalidOperation, InvalidProgram, NotReached

# What a pair tells in the place of a variable: the result of a function.
RESULT = ""
GIVING = ("new", "copy", "take", "move", "call", "drop")


def _full_pairs(program):
    """The list of the pairs of all full variables and full results, ascending."""
    found = []
    for function in program.functions:
        names = [name for name in function.names if function.kind(name) == "full"]
        if function.result == "full":
            names.append(RESULT)
        found.extend([(function.called, name) for name in sorted(names)])
    return found


def _used_fully(step):
    """The variable that a step takes from, puts into or touches fully, or None."""
    if step[0] == "take":
        return step[2]
    if step[0] == "put" or (step[0] == "touch" and step[3] == "full"):
        return step[1]
    return None


def _ties_of(program, function, step):
    """The list of pairs of which the second one stays full if the first one does, by a step."""
    name = function.called
    if step[0] == "lend":
        return [((name, step[1]), (name, step[2]))]
    if step[0] == "move":
        return _both_ways((name, step[1]), (name, step[2]))
    if step[0] == "return" and step[1] != "":
        return _both_ways((name, step[1]), (name, RESULT))
    if step[0] != "call":
        return []
    called = program[step[2]]
    ties = [] if step[1] == "" else _both_ways((name, step[1]), (called.called, RESULT))
    for argument, (parameter, _) in zip(step[3], called.parameters):
        given, got = (name, argument[1]), (called.called, parameter)
        ties.extend([(got, given)] if argument[0] == "lend" else _both_ways(got, given))
    return ties


def _both_ways(one, other):
    return [(one, other), (other, one)]


def _staying_full(program):
    """The pairs of what must stay full, and perhaps of owners, as a dict of True."""
    staying, tied, found = {}, {}, []
    for function in program.functions:
        for step, _ in function.lines:
            used = _used_fully(step)
            if used is not None:
                found.append((function.called, used))
            for one, other in _ties_of(program, function, step):
                tied.setdefault(one, []).append(other)
    # Ties lead from owners to owners only, so that they need not be left out.
    while found != []:
        pair = found.pop()
        if pair not in staying:
            staying[pair] = True
            found.extend(tied.get(pair, []))
    return staying


def can_be_look(program):
    """The greatest lowering, as an ascending tuple."""
    check_program(program)
    staying = _staying_full(program)
    return tuple([pair for pair in _full_pairs(program) if pair not in staying])


def _lowered(program, pairs):
    """The program with these pairs lowered, or None if the kinds do not allow it."""
    functions = []
    try:
        for function in program.functions:
            functions.append(_lowered_function(function, pairs))
        return Program(program.fields, tuple(functions))
    except (InvalidFunction, InvalidProgram):
        return None


def _lowered_function(function, pairs):
    name = function.called
    kinds = {other: "look" if (name, other) in pairs else function.kind(other) for other in function.names}
    parameters = tuple([(other, kinds[other]) for other, _ in function.parameters])
    variables = tuple([(other, kinds[other]) for other, _ in function.variables])
    result = "look" if (name, RESULT) in pairs else function.result
    return Function(name, parameters, result, variables, function.lines)


def is_ascending_of(pairs, value):
    """Whether the value is an ascending tuple of some of these pairs."""
    return isinstance(value, tuple) and all([pair in pairs for pair in value]) and do_ascend(value)


def is_lowering(program, value):
    """Whether the value is an ascending tuple of pairs that is a lowering."""
    check_program(program)
    return is_ascending_of(_full_pairs(program), value) and _lowered(program, value) is not None


def lowered(program, pairs):
    """The program with these pairs lowered."""
    if not is_lowering(program, pairs):
        raise InvalidOperation("this is no lowering")
    return _lowered(program, pairs)


def _marked_at(function, step):
    """The list of the owners of which some step has to know whether they hold a tree."""
    owners = [name for name in function.names if function.kind(name) == "own"]
    if step[0] == "return":
        return [name for name in owners if name != step[1]]
    return [name for name in owners if step[0] in GIVING and name == step[1]]


def _needs_mark(state, owner):
    return ("empty", owner) in state and ("held", owner) in state


def marks_in(table, name):
    """The marks of a function; the least table of its program is given."""
    function = table.program[name]
    points, _ = table[name]
    found = []
    for index, ((step, _), state) in enumerate(zip(function.lines, points)):
        if state is not None:
            owners = sorted(_marked_at(function, step))
            found.extend([(index, owner) for owner in owners if _needs_mark(state, owner)])
    return tuple(found)


def marks(program, name):
    """The pairs of a line and an owner where a mark is needed, ascending."""
    return marks_in(Table(program), name)


def mark_walks(program, name, index, owner):
    """Walk lines with the fewest steps to a line where an owner needs a mark: with it empty, and with it held."""
    fewest = Fewest(program)
    if fewest.to(name, index) is None:
        raise NotReached(index)
    if (index, owner) not in marks(program, name):
        raise InvalidOperation("this owner needs no mark at this line")
    empty = fewest.walk_to(name, index, fact=("empty", owner))
    return (empty, fewest.walk_to(name, index, fact=("held", owner)))


def _without_touch(function, line):
    """The line with skip in the place of a touch or of the drop of a reference."""
    step, nexts = line
    if step[0] == "touch" or (step[0] == "drop" and function.kind(step[1]) != "own"):
        return (("skip",), nexts)
    return line


def without_touches(program, *names):
    """The program without the touches and the drops of references of these functions, or of all."""
    check_program(program)
    chosen = [program[name].called for name in names] if names != () else list(program.names)
    functions = []
    for function in program.functions:
        lines = function.lines
        if function.called in chosen:
            lines = tuple([_without_touch(function, line) for line in function.lines])
        functions.append(
            Function(function.called, function.parameters, function.result, function.variables, lines)
        )
    return Program(program.fields, tuple(functions))
