"""Texts of states, tables, walk lines, certificates and contracts.

What is read is guessed from a text first, passing over wrong and missing signs; then the guess counts only if it
has a text and this is the one that was read.
"""

from loanpairs.base.words import do_ascend, is_any_part, is_index, is_integer, is_name, is_number_text
from loanpairs.errors import InvalidContract, InvalidState, InvalidTable, InvalidWalk, ParseError
from loanpairs.use.contracts import Contract, write_promise

NO_ITEMS = "-"
NOT_REACHED = "never"


def _is_fact(value):
    """Whether the value has the form of a fact."""
    if not isinstance(value, tuple) or len(value) not in (2, 4) or not is_name(value[1]):
        return False
    if len(value) == 2:
        return value[0] in ("empty", "held", "ended")
    if value[0] not in ("into", "from") or not is_name(value[2]) or not is_any_part(value[3]):
        return False
    return value[0] == "from" or value[1] != value[2]


def _is_state(value):
    """Whether the value has the form of a state, or is None."""
    if value is None:
        return True
    return isinstance(value, tuple) and all([_is_fact(fact) for fact in value]) and do_ascend(value)


def _write_place(name, part):
    return name if part == "" else f"{name}.{part}"


def _read_place(text):
    name, _, part = text.partition(".")
    return (name, part)


def _write_fact(fact):
    if len(fact) == 2:
        return f"{fact[1]} {fact[0]}"
    return f"{fact[1]} {fact[0]} {_write_place(fact[2], fact[3])}"


def _guess_fact(text):
    words = text.split(" ")
    if len(words) == 2:
        return (words[1], words[0])
    if len(words) == 3:
        return (words[1], words[0]) + _read_place(words[2])
    return ()


def write_state(state):
    """The text of a state, or of None."""
    if not _is_state(state):
        raise InvalidState("this has not the form of a state")
    if state is None:
        return NOT_REACHED
    return NO_ITEMS if state == () else ", ".join([_write_fact(fact) for fact in state])


def read_state(text):
    """The state with this text, or None."""
    found = _find_state(text)
    if found == []:
        raise ParseError(None)
    return found[0]


def _find_state(text):
    """The list of the state, or of None, with this text; it is empty if there is none."""
    if not isinstance(text, str):
        return []
    if text == NOT_REACHED:
        return [None]
    state = () if text == NO_ITEMS else tuple([_guess_fact(told) for told in text.split(", ")])
    return [state] if _is_state(state) and write_state(state) == text else []


def _is_outcome(value):
    """Whether the value has the form of an outcome."""
    if value in (("return",), ("own",)):
        return True
    if not isinstance(value, tuple) or len(value) != 3:
        return False
    return value[0] == "from" and is_name(value[1]) and is_any_part(value[2])


def _are_outcomes(value):
    return isinstance(value, tuple) and all([_is_outcome(item) for item in value]) and do_ascend(value)


def _write_outcomes(outcomes):
    told = [outcome[0] if len(outcome) == 1 else _write_place(outcome[1], outcome[2]) for outcome in outcomes]
    return NO_ITEMS if told == [] else " ".join(told)


def _guess_outcome(text):
    return (text,) if text in ("return", "own") else ("from",) + _read_place(text)


def _is_row(value):
    """Whether the value has the form of what a table has for a function."""
    if not isinstance(value, tuple) or len(value) != 2 or not isinstance(value[0], tuple) or value[0] == ():
        return False
    return all([_is_state(state) for state in value[0]]) and _are_outcomes(value[1])


def _is_table(value):
    """Whether the value has the form of a table."""
    if not isinstance(value, dict) or len(value) == 0 or not all([is_name(name) for name in value]):
        return False
    return all([_is_row(row) for row in value.values()])


def write_table(rows):
    """The text of a table."""
    if not _is_table(rows):
        raise InvalidTable("this has not the form of a table")
    lines = []
    for name in sorted(list(rows)):
        points, outcomes = rows[name]
        lines.append(_write_head(name, outcomes))
        lines.extend([f"{index} {write_state(state)}" for index, state in enumerate(points)])
    return "\n".join(lines)


def _write_head(name, outcomes):
    return f"{name}: {_write_outcomes(outcomes)}"


def _read_head(text):
    """The name and the outcomes in the first line of a function in a table, or None."""
    name, _, told = text.partition(": ")
    outcomes = () if told == NO_ITEMS else tuple([_guess_outcome(word) for word in told.split(" ")])
    if not is_name(name) or not _are_outcomes(outcomes) or _write_head(name, outcomes) != text:
        return None
    return (name, outcomes)


def _read_point(text):
    """The index and the state in a line of a table, or None."""
    number, _, told = text.partition(" ")
    found = _find_state(told)
    return (int(number), found[0]) if is_number_text(number) and found != [] else None


def _lines_of(text):
    """The list of the lines of a text."""
    if not isinstance(text, str):
        raise ParseError(None)
    return text.split("\n")


def read_table(text):
    """The table with this text."""
    return _table_in(_lines_of(text), 0)


def _table_in(lines, first):
    """The table whose text is these lines from the index first on."""
    read = []
    for number, line in enumerate(lines[first:]):
        head, point = _read_head(line), _read_point(line)
        if head is None and point is None:
            raise ParseError(first + number)
        read.append((head, point))
    rows, names = {}, []
    for head, point in read:
        if head is not None:
            names.append(head[0])
            rows[head[0]] = ([], head[1])
        elif names == [] or point[0] != len(rows[names[-1]][0]):
            raise ParseError(None)
        else:
            rows[names[-1]][0].append(point[1])
    told = {name: (tuple(points), outcomes) for name, (points, outcomes) in rows.items()}
    if not do_ascend(names) or not _is_table(told):
        raise ParseError(None)
    return told


def _is_walk(value):
    """Whether the value has the form of walk lines."""
    if not isinstance(value, tuple) or value == ():
        return False
    return all([_is_walk_line(pair, earlier) for earlier, pair in enumerate(value)])


def _is_walk_line(value, earlier):
    """Whether the value has the form of a pair of walk lines, with so many earlier pairs."""
    if not isinstance(value, tuple) or len(value) != 2 or not is_name(value[0]) or not isinstance(value[1], tuple):
        return False
    return all([_is_walk_step(step, earlier) for step in value[1]])


def _is_walk_step(value, earlier):
    if not isinstance(value, tuple) or len(value) != 2 or not is_integer(value[0]) or value[0] < 0:
        return False
    return value[1] is None or is_index(value[1], earlier)


def write_walk(lines):
    """The text of walk lines."""
    if not _is_walk(lines):
        raise InvalidWalk("this has not the form of walk lines")
    return "\n".join([_write_walk_line(name, way) for name, way in lines])


def _write_walk_line(name, way):
    return " ".join([name, *[str(line) if inner is None else f"{line}({inner})" for line, inner in way]])


def _read_walk_line(text):
    """The name and the way in a line of walk lines, or None; it is not judged whether earlier pairs are there."""
    words = text.split(" ")
    way = [_read_walk_step(word) for word in words[1:]]
    return (words[0], tuple(way)) if is_name(words[0]) and None not in way else None


def _read_walk_step(text):
    """The pair of a line and of the index of a called walk with this text, or None."""
    if is_number_text(text):
        return (int(text), None)
    line, _, rest = text.partition("(")
    inner = rest.removesuffix(")")
    if not is_number_text(line) or not is_number_text(inner) or f"{line}({inner})" != text:
        return None
    return (int(line), int(inner))


def read_walk(text):
    """The walk lines with this text."""
    return _walk_in(_lines_of(text), 0)


def _walk_in(lines, first):
    """The walk lines whose text is these lines from the index first on."""
    read = []
    for number, line in enumerate(lines[first:]):
        pair = _read_walk_line(line)
        if pair is None:
            raise ParseError(first + number)
        read.append(pair)
    if not _is_walk(tuple(read)):
        raise ParseError(None)
    return tuple(read)


def write_certificate(certificate):
    """The text of a certificate."""
    if not isinstance(certificate, tuple) or len(certificate) != 2:
        raise InvalidTable("a certificate is a pair")
    word, told = certificate
    if word == "table":
        return f"table\n{write_table(told)}"
    if word == "run" and _is_walk(told):
        return f"run\n{write_walk(told)}"
    raise InvalidTable("this has not the form of a certificate")


def read_certificate(text):
    """The certificate with this text."""
    lines = _lines_of(text)
    if lines[0] == "table":
        return ("table", _table_in(lines, 1))
    if lines[0] == "run":
        return ("run", _walk_in(lines, 1))
    raise ParseError(0)


def write_contract(contract):
    """The text of a contract."""
    if not isinstance(contract, Contract):
        raise InvalidContract("this is no contract")
    fields = " ".join(contract.fields)
    return f"{fields}; {write_promise(contract.kinds, contract.result, contract.outcomes)}"


def read_contract(text):
    """The contract with this text."""
    contract = _guess_contract(text) if isinstance(text, str) else None
    if contract is None or write_contract(contract) != text:
        raise ParseError(None)
    return contract


def _guess_contract(text):
    """The only contract that can have this text, or None."""
    fields, _, promise = text.partition("; ")
    head, _, told = promise.partition(": ")
    listed, _, result = head.removeprefix("(").partition(")")
    kinds = () if listed == "" else tuple(listed.split(", "))
    outcomes = [] if told == "never" else [_guess_indexed(word) for word in told.split(" ")]
    try:
        return Contract(tuple(fields.split(" ")), kinds, result.removeprefix(" "), tuple(outcomes))
    except InvalidContract:
        return None


def _guess_indexed(text):
    """The only outcome of a contract that can have this text."""
    number, _, part = text.partition(".")
    return ("from", int(number), part) if is_number_text(number) else (text,)
