"""A project as the document tells it, worked out anew at each question, state by state."""

from loanpairs.base.functions import Function
from loanpairs.base.programs import Program
from loanpairs.base.words import is_name
from loanpairs.errors import (
    InvalidContract, InvalidFunction, InvalidOperation, InvalidProgram, InvalidWord, NothingToUndo, Refused, TooMany,
    UnknownName,
)
from loanpairs.use.contracts import Contract
from tests.makers import closed_by_words
from tests.oracle import by_outcomes, seen_by_outcomes


class Tables:
    """What is true of functions and of names with assumed contracts."""

    def __init__(self, fields, functions, assumed):
        self.fields, self.functions, self.assumed = fields, functions, assumed
        self.names = sorted([*functions, *assumed])
        never = [Function(name, tuple(zip("abc", given.kinds)), given.result, (), ((("skip",), (0,)),))
                 for name, given in assumed.items()]
        self.told = Program(fields, (*functions.values(), *never)) if self.names else None
        self.outcomes = {name: set() for name in self.names}
        for name, given in assumed.items():
            self.outcomes[name] = {("from", "abc"[x[1]], x[2]) if x[0] == "from" else x for x in closed_by_words(given)}
        before = None
        while before != self.outcomes:
            before = dict(self.outcomes)
            for name in functions:
                self.outcomes[name] = by_outcomes(self.told, name, self.outcomes)[1]

    def contract(self, name):
        if name in self.assumed:
            return self.assumed[name]
        function = self.functions[name]
        names = [parameter for parameter, _ in function.parameters]
        outcomes = [("from", names.index(x[1]), x[2]) if x[0] == "from" else x for x in self.outcomes[name]]
        return Contract(self.fields, tuple(kind for _, kind in function.parameters), function.result, tuple(outcomes))

    def states(self, name):
        if name in self.assumed:
            return ()
        seen = seen_by_outcomes(self.told, name, self.outcomes)
        found = []
        for index in range(len(self.functions[name])):
            states = [state for at, state in seen if at == index]
            found.append(tuple(sorted(set().union(*states))) if states else None)
        return tuple(found)

    def faults(self, name):
        return tuple(sorted(by_outcomes(self.told, name, self.outcomes)[0]))

    def is_unmarked(self, name):
        for (step, _), state in zip(self.functions[name].lines, self.states(name)):
            doubtful = {fact[1] for fact in state or () if fact[0] == "empty" and ("held", fact[1]) in state}
            if step[0] == "return" and doubtful - {step[1]}:
                return False
            if step[0] in ("new", "copy", "take", "move", "call", "drop") and step[1] in doubtful:
                if self.functions[name].kind(step[1]) == "own":
                    return False
        return True

    def suits(self, pin):
        word, name, *more = pin
        if name not in self.names or (word != "within" and name in self.assumed):
            return False
        if word != "within":
            return True
        given = self.contract(name)
        return (given.fields, given.kinds, given.result) == (more[0].fields, more[0].kinds, more[0].result)

    def holds(self, pin):
        word, name, *more = pin
        if word == "sound":
            return self.faults(name) == ()
        if word == "within":
            return set(closed_by_words(self.contract(name))) <= set(closed_by_words(more[0]))
        return self.is_unmarked(name)


def news_of(before, behind):
    news = []
    for name in sorted({*before.names, *behind.names}):
        if name not in before.names:
            news.append((name, "new"))
        elif name not in behind.names:
            news.append((name, "gone"))
        elif before.contract(name) != behind.contract(name):
            news.append((name, "contract"))
        elif before.states(name) != behind.states(name):
            news.append((name, "facts"))
    return tuple(news)


class Model:
    def __init__(self, *fields):
        self.fields = fields
        self.now = (Tables(fields, {}, {}), ())
        self.past, self.future = [], []

    def change(self, word, *given):
        """The news of a change; its errors are raised."""
        tables, pins = self.now
        functions, assumed = dict(tables.functions), dict(tables.assumed)
        if word == "put":
            if not isinstance(given[0], Function):
                raise InvalidFunction("")
            assumed.pop(given[0].called, None)
            functions[given[0].called] = given[0]
        elif word == "remove":
            if given[0] not in tables.names:
                raise UnknownName(given[0])
            functions.pop(given[0], None)
            assumed.pop(given[0], None)
        elif word == "assume":
            if not is_name(given[0]):
                raise InvalidWord("")
            if not isinstance(given[1], Contract) or given[1].fields != self.fields:
                raise InvalidContract("")
            functions.pop(given[0], None)
            assumed[given[0]] = given[1]
        elif word == "pin":
            if not tables.suits(given[0]) or given[0] in pins:
                raise InvalidOperation("")
            pins = (*pins, given[0])
        else:
            if given[0] not in pins:
                raise InvalidOperation("")
            pins = tuple(pin for pin in pins if not pin == given[0])
        return self.go_on(functions, assumed, pins)

    def go_on(self, functions, assumed, pins):
        if len(functions) + len(assumed) > 12:
            raise TooMany(12)
        if len(pins) > 10:
            raise TooMany(10)
        try:
            tables = Tables(self.fields, functions, assumed)
        except InvalidProgram:
            raise InvalidOperation("") from None
        if not all(tables.suits(pin) for pin in pins):
            raise InvalidOperation("")
        for pin in pins:
            if not tables.holds(pin):
                raise Refused(pin)
        self.past.append(self.now)
        self.future = []
        return self.show((tables, pins))

    def show(self, now):
        before, self.now = self.now, now
        return news_of(before[0], now[0])

    def step_over(self, source, target, many):
        if many > len(source):
            raise NothingToUndo(many)
        now = self.now
        for _ in range(many):
            target.append(now)
            now = source.pop()
        return self.show(now)

    def undo(self, many=1):
        return self.step_over(self.past, self.future, many)

    def redo(self, many=1):
        return self.step_over(self.future, self.past, many)
