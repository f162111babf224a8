"""Steps, lines and functions, and their texts."""

from loanpairs.base.forms import are_variables, has_step_roles, is_renaming, is_result, read_head
from loanpairs.base.forms import suits_kinds, variables_of, with_names, write_head
from loanpairs.base.words import are_different_names, do_ascend, is_index, is_name, is_number_text
from loanpairs.errors import InvalidFunction, InvalidNumber, InvalidOperation, InvalidWord, ParseError, UnknownName

MAX_PARAMETERS = 3
MAX_VARIABLES = 8
MAX_LINES = 40
MAX_NEXTS = 3
# In these steps one variable can stand more than once.
REPEATING = ("call", "lend")


def is_step(value):
    """Whether the value has a form of a step; kinds are not judged."""
    if not has_step_roles(value):
        return False
    variables = variables_of(value)
    return value[0] in REPEATING or len(set(variables)) == len(variables)


def write_step(step):
    """The text of a step."""
    if not is_step(step):
        raise InvalidFunction("this is no step")
    word = step[0]
    if word in ("copy", "lend", "take"):
        return f"{word} {step[1]} = {_write_place(step[2], step[3])}"
    if word == "put":
        return f"put {_write_place(step[1], step[2])} = {step[3]}"
    if word == "move":
        return f"move {step[1]} = {step[2]}"
    if word == "touch":
        return f"touch {_write_place(step[1], step[2])} {step[3]}"
    if word == "call":
        target = "" if step[1] == "" else f"{step[1]} = "
        arguments = ", ".join([_write_argument(argument) for argument in step[3]])
        return f"call {target}{step[2]}({arguments})"
    return " ".join([item for item in step if item != ""])


def _write_place(name, part):
    return name if part == "" else f"{name}.{part}"


def _write_argument(argument):
    if argument[0] == "move":
        return f"move {argument[1]}"
    return f"lend {_write_place(argument[1], argument[2])}"


def read_step(text):
    """The step with this text."""
    step = _read_step(text)
    if step is None:
        raise ParseError(None)
    return step


def _read_step(text):
    """The step with this text, or None."""
    if not isinstance(text, str):
        return None
    step = _guess_step(text)
    # Guessing passes over wrong and missing signs, so only a guess that is written as this text counts.
    return step if is_step(step) and write_step(step) == text else None


def _guess_step(text):
    """The only tuple that can be the step with this text."""
    word, _, rest = text.partition(" ")
    if word == "skip":
        return ("skip",)
    if word in ("copy", "lend", "take"):
        name, _, place = rest.partition(" = ")
        return (word, name) + _guess_place(place)
    if word == "put":
        place, _, name = rest.partition(" = ")
        return (word,) + _guess_place(place) + (name,)
    if word == "move":
        name, _, other = rest.partition(" = ")
        return (word, name, other)
    if word == "touch":
        place, _, way = rest.partition(" ")
        return (word,) + _guess_place(place) + (way,)
    if word == "call":
        return _guess_call(rest)
    return (word, rest)


def _guess_place(text):
    name, _, part = text.partition(".")
    return (name, part)


def _guess_call(text):
    front, _, back = text.partition("(")
    target, _, called = front.rpartition(" = ")
    # Splitting would make one argument out of none.
    told = [] if back == ")" else back.removesuffix(")").split(", ")
    return ("call", target, called, tuple([_guess_argument(argument) for argument in told]))


def _guess_argument(text):
    word, _, rest = text.partition(" ")
    return (word, rest) if word == "move" else (word,) + _guess_place(rest)


def read_line(text, index):
    """The line with this text, if it stands at this index of its function, or None."""
    if not isinstance(text, str):
        return None
    front, arrow, back = text.partition(" -> ")
    step = _read_step(front)
    nexts = (index + 1,) if arrow == "" else _read_nexts(back)
    if step is None or nexts is None:
        return None
    if step[0] == "return":
        nexts = ()
    # A line has just one text: nexts that need no telling must not be told.
    return (step, nexts) if write_line((step, nexts), index) == text else None


def _read_nexts(text):
    words = text.split(" ")
    if len(words) > MAX_NEXTS or not all([is_number_text(word) for word in words]):
        return None
    nexts = tuple([int(word) for word in words])
    return nexts if do_ascend(nexts) else None


def write_line(line, index):
    """The text of a line at this index."""
    step, nexts = line
    if nexts in ((), (index + 1,)):
        return write_step(step)
    told = " ".join([str(number) for number in nexts])
    return f"{write_step(step)} -> {told}"


def _are_lines(value, kinds, result):
    """Whether the value is the lines of a function with variables of these kinds."""
    if not isinstance(value, tuple) or not 1 <= len(value) <= MAX_LINES:
        return False
    return all([_is_line(line, len(value), kinds, result) for line in value])


def _is_line(value, many, kinds, result):
    if not isinstance(value, tuple) or len(value) != 2:
        return False
    step, nexts = value
    if not is_step(step) or not suits_kinds(step, kinds, result) or not isinstance(nexts, tuple):
        return False
    if step[0] == "return":
        return nexts == ()
    if not 1 <= len(nexts) <= MAX_NEXTS or not all([is_index(number, many) for number in nexts]):
        return False
    return do_ascend(nexts)


class Function:
    """A function of a program; it never changes."""

    def __init__(self, called, parameters, result, variables, lines):
        if not is_name(called):
            raise InvalidWord("a function is called by a name")
        if not are_variables(parameters) or not is_result(result) or not are_variables(variables):
            raise InvalidFunction("variables are pairs of a name and a kind, and a result is a kind or empty")
        names = tuple([name for name, _ in parameters + variables])
        if len(parameters) > MAX_PARAMETERS or len(names) > MAX_VARIABLES or not are_different_names(names):
            raise InvalidFunction("there are at most three parameters and eight different variables")
        kinds = {name: kind for name, kind in parameters + variables}
        if not _are_lines(lines, kinds, result):
            raise InvalidFunction("there are one to forty lines that suit the kinds and have nexts among them")
        self._called = called
        self._parameters = parameters
        self._result = result
        self._variables = variables
        self._lines = lines
        self._names = names
        self._kinds = kinds
        self._calls = tuple(sorted({step[2] for step, _ in lines if step[0] == "call"}))
        head = write_head(called, parameters, result, variables)
        self._text = (head, *[write_line(line, index) for index, line in enumerate(lines)])

    @classmethod
    def from_lines(cls, *lines):
        """The function with this text."""
        head = read_head(lines[0]) if len(lines) > 0 else None
        if head is None:
            raise ParseError(0)
        read = []
        for index, text in enumerate(lines[1:]):
            line = read_line(text, index)
            if line is None:
                raise ParseError(index + 1)
            read.append(line)
        called, parameters, result, variables = head
        return cls(called, parameters, result, variables, tuple(read))

    @property
    def called(self):
        """Its name."""
        return self._called

    @property
    def parameters(self):
        """The pairs of a name and a kind of its parameters."""
        return self._parameters

    @property
    def result(self):
        """The kind of its result, or an empty string."""
        return self._result

    @property
    def variables(self):
        """The pairs of a name and a kind of its other variables."""
        return self._variables

    @property
    def lines(self):
        """The pairs of a step and its nexts."""
        return self._lines

    @property
    def names(self):
        """The names of its parameters and of its other variables."""
        return self._names

    @property
    def calls(self):
        """The names of the functions that it calls, ascending."""
        return self._calls

    @property
    def text(self):
        """Its head and its lines, as texts."""
        return self._text

    def kind(self, name):
        """The kind of a variable."""
        if name not in self._names:
            raise UnknownName(name)
        return self._kinds[name]

    def ahead(self, index):
        """The indices of the lines that have this one among their nexts."""
        if not is_index(index, len(self._lines)):
            raise InvalidNumber(index)
        return tuple([number for number, (_, nexts) in enumerate(self._lines) if index in nexts])

    def with_line(self, index, step, *nexts):
        """The function with another line in this place."""
        if not is_index(index, len(self._lines)):
            raise InvalidNumber(index)
        lines = (*self._lines[:index], (step, nexts), *self._lines[index + 1:])
        return Function(self._called, self._parameters, self._result, self._variables, lines)

    def renamed(self, names):
        """The function with other names of its variables; names is a dict from all of them."""
        if not is_renaming(self._names, names):
            raise InvalidOperation("there is a new name for each variable, and they are different")
        parameters = tuple([(names[name], kind) for name, kind in self._parameters])
        variables = tuple([(names[name], kind) for name, kind in self._variables])
        lines = tuple([(with_names(step, names), nexts) for step, nexts in self._lines])
        return Function(self._called, parameters, self._result, variables, lines)

    def __getitem__(self, at):
        if not is_index(at, len(self._lines)):
            raise InvalidNumber(at)
        return self._lines[at]

    def __contains__(self, x):
        return x in self._names

    def __len__(self):
        return len(self._lines)

    def __iter__(self):
        raise TypeError("a function cannot be iterated over")

    def __eq__(self, other):
        return (
            isinstance(other, Function)
            and self._called == other._called
            and self._parameters == other._parameters
            and self._result == other._result
            and self._variables == other._variables
            and self._lines == other._lines
        )

    def __str__(self):
        return str(self._text[0])
