"""Programs: fields, and functions that fit one another."""

from loanpairs.base.forms import is_renaming, lines_instead, names_beside, parts_of, read_head
from loanpairs.base.forms import suits_called, with_words
from loanpairs.base.functions import Function, read_line
from loanpairs.base.words import is_fields
from loanpairs.errors import InvalidFunction, InvalidOperation, InvalidProgram, InvalidWord, ParseError, UnknownName

MAX_FUNCTIONS = 12


def _are_functions(value):
    if not isinstance(value, tuple) or not 1 <= len(value) <= MAX_FUNCTIONS:
        return False
    if not all([isinstance(function, Function) for function in value]):
        return False
    return len({function.called for function in value}) == len(value)


def _fits(function, fields, named):
    """Whether the parts in a function are of these fields, and its calls fit the functions in a dict."""
    kinds = {name: kind for name, kind in function.parameters + function.variables}
    for step, _ in function.lines:
        if not all([part == "" or part in fields for part in parts_of(step)]):
            return False
        if step[0] != "call":
            continue
        called = named.get(step[2])
        if called is None or not suits_called(step, kinds, called.parameters, called.result):
            return False
    return True


def _read_fields(text):
    """The fields in the first line of a program, or None."""
    if not isinstance(text, str):
        return None
    word, _, rest = text.partition(" ")
    fields = tuple(rest.split(" "))
    return fields if word == "fields" and is_fields(fields) else None


def _read_functions(texts):
    """The list of pairs of a head and the list of its lines; the first text has the index 1."""
    read = []
    for index, text in enumerate(texts):
        head = read_head(text)
        if head is not None:
            read.append((head, []))
            continue
        line = None if read == [] else read_line(text, len(read[-1][1]))
        if line is None:
            raise ParseError(index + 1)
        read[-1][1].append(line)
    return read


class Program:
    """Fields and functions; it never changes."""

    def __init__(self, fields, functions):
        if not is_fields(fields):
            raise InvalidWord("fields are one to four different names")
        if not _are_functions(functions):
            raise InvalidProgram("there are one to twelve functions with different names")
        named = by_name(functions)
        if not all([_fits(function, fields, named) for function in functions]):
            raise InvalidProgram("parts are fields, and calls fit the called functions")
        self._fields = fields
        self._names = tuple(sorted(list(named)))
        self._functions = tuple([named[name] for name in self._names])
        self._by_name = named

    @classmethod
    def from_lines(cls, *lines):
        """The program with this text."""
        fields = _read_fields(lines[0]) if len(lines) > 0 else None
        if fields is None:
            raise ParseError(0)
        read = _read_functions(lines[1:])
        functions = []
        for (called, parameters, result, variables), told in read:
            try:
                functions.append(Function(called, parameters, result, variables, tuple(told)))
            except InvalidFunction:
                raise InvalidProgram("a function is none") from None
        return cls(fields, tuple(functions))

    @property
    def fields(self):
        """Its fields."""
        return self._fields

    @property
    def functions(self):
        """Its functions, ascending by name."""
        return self._functions

    @property
    def names(self):
        """The names of its functions, ascending."""
        return self._names

    @property
    def text(self):
        """Its lines as texts."""
        first = " ".join(["fields", *self._fields])
        return (first, *[line for function in self._functions for line in function.text])

    def callers(self, name):
        """The names of the functions that call this one, ascending."""
        called = self[name].called
        return tuple([other for other in self._names if called in self._by_name[other].calls])

    def needed(self, name):
        """The names of the functions that calls lead to from this one, itself included, ascending."""
        found = [self[name].called]
        met = {found[0]: True}
        while found != []:
            calls = self._by_name[found.pop()].calls
            for called in calls:
                if called not in met:
                    met[called] = True
                    found.append(called)
        return tuple(sorted(list(met)))

    def with_function(self, function):
        """The program with this function, instead of the one with its name if there is one."""
        if not isinstance(function, Function):
            raise InvalidFunction("this is no function")
        others = [other for other in self._functions if other.called != function.called]
        return _changed(self._fields, [*others, function])

    def without(self, name):
        """The program without this function."""
        called = self[name].called
        return _changed(self._fields, [other for other in self._functions if other.called != called])

    def __or__(self, other):
        if not isinstance(other, Program) or other._fields != self._fields:
            raise InvalidOperation("this is no program with the same fields")
        others = [function for function in other._functions if function not in self._functions]
        return _changed(self._fields, [*self._functions, *others])

    def __and__(self, other):
        if not isinstance(other, Program) or other._fields != self._fields:
            raise InvalidOperation("this is no program with the same fields")
        return _changed(self._fields, [function for function in self._functions if function in other._functions])

    def __getitem__(self, at):
        if at not in self._names:
            raise UnknownName(at)
        return self._by_name[at]

    def __contains__(self, x):
        return x in self._names or x in self._functions

    def __len__(self):
        return len(self._names)

    def __iter__(self):
        raise TypeError("a program cannot be iterated over")

    def __eq__(self, other):
        return (
            isinstance(other, Program)
            and self._fields == other._fields
            and self._functions == other._functions
        )

    def __str__(self):
        many = sum([len(function) for function in self._functions])
        return f"program of {len(self._functions)} functions, {many} lines"


def _changed(fields, functions):
    try:
        return Program(fields, tuple(functions))
    except InvalidProgram:
        raise InvalidOperation("there is no such program") from None


def by_name(functions):
    """A dict from the names of functions to them."""
    return {function.called: function for function in functions}


def check_program(program):
    """Refuses what is no program."""
    if not isinstance(program, Program):
        raise InvalidProgram("this is no program")


def function_of(program, name):
    """The function of this name; whatever is wrong about the two is raised."""
    check_program(program)
    return program[name]


def line_of(program, name, index):
    """The line of this index in a function; whatever is wrong about the three is raised."""
    return function_of(program, name)[index]


def renamed(program, *, fields, functions):
    """The program with other names of fields and functions, two dicts from all of them."""
    check_program(program)
    if not is_renaming(program.fields, fields) or not is_renaming(program.names, functions):
        raise InvalidOperation("there is a new name for each old one, and they are different")
    told = []
    for function in program.functions:
        lines = tuple([(with_words(step, fields, functions), nexts) for step, nexts in function.lines])
        called = functions[function.called]
        told.append(Function(called, function.parameters, function.result, function.variables, lines))
    return Program(tuple([fields[field] for field in program.fields]), tuple(told))


def inlined(program, name, index):
    """The program in which the lines of the called function stand for the call in this line."""
    step, _ = line_of(program, name, index)
    if step[0] != "call":
        raise InvalidOperation("this line is no call")
    function, called = program[name], program[step[2]]
    names = names_beside(function.names, called.names)
    variables = function.variables + tuple([(names[old], called.kind(old)) for old in called.names])
    lines = lines_instead(function.lines, index, called, names)
    try:
        longer = Function(name, function.parameters, function.result, variables, lines)
    except InvalidFunction:
        raise InvalidOperation("a function has not room for so much") from None
    return program.with_function(longer)
