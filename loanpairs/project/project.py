"""Projects: functions, contracts that are assumed for others, and pins that hold at all times."""

from loanpairs.base.functions import Function
from loanpairs.base.programs import MAX_FUNCTIONS, Program
from loanpairs.base.words import is_fields, is_index, is_integer, is_name
from loanpairs.decide.tables import Table
from loanpairs.errors import InvalidContract, InvalidFunction, InvalidNumber, InvalidOperation, InvalidProgram
from loanpairs.errors import InvalidWord, NothingToUndo, Refused, TooMany, UnknownName
from loanpairs.use.advice import marks_in
from loanpairs.use.contracts import Contract, are_like, contract_in

MAX_PINS = 10
# How many arguments each change has.
CHANGES = {"put": 1, "remove": 1, "assume": 2, "pin": 1, "unpin": 1}
PIN_ITEMS = {"sound": 2, "within": 3, "unmarked": 2}


def _ascending(named):
    """The same dict with ascending keys."""
    return {name: named[name] for name in sorted(list(named))}


class Ground:
    """Functions and assumed contracts that suit one another, and their tables; it never changes.

    For each assumed name a function stands in that has just the outcomes of the closed form of its contract.
    """

    def __init__(self, fields, bodies, promises):
        self.bodies = _ascending(bodies)
        self.promises = _ascending(promises)
        self.listed = list(self.bodies)
        self.all_names = sorted(list(self.bodies) + list(self.promises))
        self.table = None
        if self.all_names != []:
            stand_ins = [self.promises[name].function(name) for name in self.promises]
            functions = tuple([self.bodies[name] for name in self.listed] + stand_ins)
            self.table = Table(Program(fields, functions))

    def contract_of(self, name):
        """The contract of a name, or None if there is no such name."""
        if name not in self.all_names:
            return None
        return self.promises[name] if name in self.promises else contract_in(self.table, name)

    def points_of(self, name):
        """The states of the function of a name; other names have none."""
        if name not in self.listed:
            return ()
        points, _ = self.table[name]
        return points

    def faults_in(self, name):
        """The pairs of a line and a fault of the states of a function, ascending."""
        return tuple([(index, fault) for other, index, fault in self.table.faults if other == name])


def _news_between(before, behind):
    """The news of two grounds."""
    found = []
    for name in sorted(set(before.all_names) | set(behind.all_names)):
        one, other = before.contract_of(name), behind.contract_of(name)
        if one is None:
            found.append((name, "new"))
        elif other is None:
            found.append((name, "gone"))
        elif one != other:
            found.append((name, "contract"))
        elif before.points_of(name) != behind.points_of(name):
            found.append((name, "facts"))
    return tuple(found)


def _is_pin(value):
    """Whether the value has the form of a pin."""
    if not isinstance(value, tuple) or value == () or not isinstance(value[0], str):
        return False
    return len(value) == PIN_ITEMS.get(value[0], 0)


def _suits(ground, pin):
    """Whether a pin is about a function, or for "within" any name, and suits it."""
    word, name = pin[:2]
    if word != "within":
        return name in ground.listed
    contract = ground.contract_of(name)
    return contract is not None and are_like(contract, pin[2])


def _holds(ground, pin):
    """Whether a pin that suits is true."""
    word, name = pin[:2]
    if word == "sound":
        return ground.faults_in(name) == ()
    if word == "within":
        return ground.contract_of(name).fits(pin[2])
    return marks_in(ground.table, name) == ()


def _has_form_of_change(value):
    """Whether the value is a tuple of the word of a change and as many arguments as it has."""
    if not isinstance(value, tuple) or value == () or not isinstance(value[0], str):
        return False
    return value[0] in CHANGES and len(value) == CHANGES[value[0]] + 1


class Project:
    """A program that is written bit by bit."""

    def __init__(self, *fields):
        if not is_fields(fields):
            raise InvalidWord("fields are one to four different names")
        self._fields = fields
        self._ground = Ground(fields, {}, {})
        self._pins = ()
        # Pairs of a ground and pins: those ahead of the changes that were done, and behind those taken back.
        self._past = []
        self._taken_back = []

    @property
    def fields(self):
        """Its fields."""
        return self._fields

    @property
    def functions(self):
        """A dict from names to its functions."""
        return {name: self._ground.bodies[name] for name in self._ground.bodies}

    @property
    def assumed(self):
        """A dict from names to its assumed contracts."""
        return {name: self._ground.promises[name] for name in self._ground.promises}

    @property
    def pins(self):
        """Its pins, in the order in which they were pinned."""
        return self._pins

    def put(self, function):
        """Adds a function, or replaces what has its name."""
        if not isinstance(function, Function):
            raise InvalidFunction("this is no function")
        bodies, promises = self.functions, self.assumed
        promises.pop(function.called, None)
        bodies[function.called] = function
        return self._change(bodies, promises)

    def remove(self, name):
        """Takes a name out."""
        if name not in self._ground.all_names:
            raise UnknownName(name)
        bodies, promises = self.functions, self.assumed
        bodies.pop(name, None)
        promises.pop(name, None)
        return self._change(bodies, promises)

    def assume(self, name, contract):
        """Adds a contract for a name, or replaces what has this name."""
        if not is_name(name):
            raise InvalidWord("a contract is assumed for a name")
        if not isinstance(contract, Contract) or contract.fields != self._fields:
            raise InvalidContract("this is no contract with the fields of the project")
        bodies, promises = self.functions, self.assumed
        bodies.pop(name, None)
        promises[name] = contract
        return self._change(bodies, promises)

    def _change(self, bodies, promises):
        """Goes on to other functions and contracts, if they and the pins suit and hold."""
        if len(bodies) + len(promises) > MAX_FUNCTIONS:
            raise TooMany(MAX_FUNCTIONS)
        try:
            ground = Ground(self._fields, bodies, promises)
        except InvalidProgram:
            raise InvalidOperation("a part or a call does not suit") from None
        return self._go_on(ground, self._pins)

    def _go_on(self, ground, pins):
        if not all([_suits(ground, pin) for pin in pins]):
            raise InvalidOperation("a pin does not suit")
        for pin in pins:
            if not _holds(ground, pin):
                raise Refused(pin)
        self._past.append((self._ground, self._pins))
        self._taken_back = []
        return self._show(ground, pins)

    def _show(self, ground, pins):
        """Makes these the present functions, contracts and pins; the news."""
        before = self._ground
        self._ground, self._pins = ground, pins
        return _news_between(before, ground)

    def pin(self, pin):
        """Adds a pin."""
        if not _is_pin(pin) or not _suits(self._ground, pin) or pin in self._pins:
            raise InvalidOperation("this is no new pin that suits the project")
        if len(self._pins) >= MAX_PINS:
            raise TooMany(MAX_PINS)
        return self._go_on(self._ground, (*self._pins, pin))

    def unpin(self, pin):
        """Takes a pin away."""
        if pin not in self._pins:
            raise InvalidOperation("this is no pin of the project")
        return self._go_on(self._ground, tuple([other for other in self._pins if other != pin]))

    def trial(self, *changes):
        """The news that changes would return, one behind the other."""
        if not all([_has_form_of_change(change) for change in changes]):
            raise InvalidOperation("a change is a tuple of a word and its arguments")
        twin = self.twin()
        return tuple([twin._do(change) for change in changes])

    def _do(self, change):
        """Does a change that is told by a tuple."""
        word = change[0]
        if word == "put":
            return self.put(change[1])
        if word == "remove":
            return self.remove(change[1])
        if word == "assume":
            return self.assume(change[1], change[2])
        return self.pin(change[1]) if word == "pin" else self.unpin(change[1])

    def undo(self, *, many=1):
        """Takes back the last changes."""
        _check_many(many, self._past)
        return self._step_over(self._past, self._taken_back, many)

    def redo(self, *, many=1):
        """Does again the changes that were taken back last."""
        _check_many(many, self._taken_back)
        return self._step_over(self._taken_back, self._past, many)

    def _step_over(self, source, target, many):
        """Goes to what is so far back in a list; what is passed is told in the other one."""
        ground, pins = self._ground, self._pins
        for _ in range(many):
            target.append((ground, pins))
            ground, pins = source.pop()
        return self._show(ground, pins)

    def contract(self, name):
        """The contract of a function, or an assumed one."""
        contract = self._ground.contract_of(name)
        if contract is None:
            raise UnknownName(name)
        return contract

    def states_of(self, name):
        """The states of the table of a function, None for a line that is not reached."""
        return self._ground.points_of(self[name].called)

    def faults_of(self, name):
        """The pairs of a line and a fault of the states of a function, ascending."""
        return self._ground.faults_in(self[name].called)

    def whole(self):
        """The program of the functions."""
        if len(self._ground.promises) > 0 or len(self._ground.bodies) == 0:
            raise InvalidOperation("only functions alone are a program")
        return self._ground.table.program

    def twin(self):
        """An equal project that changes by itself."""
        twin = Project(*self._fields)
        twin._ground, twin._pins = self._ground, self._pins
        twin._past, twin._taken_back = list(self._past), list(self._taken_back)
        return twin

    def __getitem__(self, at):
        if at not in self._ground.listed:
            raise UnknownName(at)
        return self._ground.bodies[at]

    def __contains__(self, x):
        return x in self._ground.listed

    def __iter__(self):
        return iter(self._ground.listed)

    def __len__(self):
        return len(self._ground.listed)

    def __eq__(self, other):
        return (
            isinstance(other, Project)
            and self._fields == other._fields
            and self._ground.bodies == other._ground.bodies
            and self._ground.promises == other._ground.promises
            and self._pins == other._pins
        )

    def __str__(self):
        return f"project of {len(self)} functions, {len(self._ground.promises)} assumed, {len(self._pins)} pins"


def _check_many(many, changes):
    """Refuses what is no number of changes, and more than there are."""
    if not is_integer(many) or many < 0:
        raise InvalidNumber(many)
    if not is_index(many, len(changes) + 1):
        raise NothingToUndo(many)
