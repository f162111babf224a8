"""Tables of facts, the least one among them."""

from loanpairs.base.programs import by_name, check_program, line_of
from loanpairs.base.words import do_ascend
from loanpairs.core.actions import facts_behind, go_through, outcomes_of_return, plan_of
from loanpairs.core.facts import is_fact, is_outcome, is_state, start_state
from loanpairs.decide.search import Flow
from loanpairs.errors import InvalidState, InvalidTable, UnknownName


class Table:
    """The least table of a program; it never changes."""

    def __init__(self, program):
        check_program(program)
        self._program = program
        self._rows = Flow(by_name(program.functions)).least()
        self._faults = tuple(sorted(faults_in(program, self._rows)))

    @property
    def program(self):
        """Its program."""
        return self._program

    @property
    def rows(self):
        """The table as a dict."""
        return {name: self._rows[name] for name in self._program.names}

    @property
    def is_sound(self):
        """Whether the program is sound."""
        return len(self._faults) == 0

    @property
    def faults(self):
        """The triples of a name, an index and a fault of all faults, ascending."""
        return self._faults

    def state(self, name, index):
        """The state of a line, or None if it is not reached."""
        line_of(self._program, name, index)
        return self._rows[name][0][index]

    def is_reached(self, name, index):
        """Whether a line is reached."""
        return self.state(name, index) is not None

    def outcomes_of(self, name):
        """The outcomes of a function."""
        return self[name][1]

    def has(self, name, index, fact):
        """Whether a line is reached and has a fact."""
        state = self.state(name, index)
        if not is_fact(self._program, name, fact):
            raise InvalidState("this is no fact of the function")
        return state is not None and fact in state

    def each(self):
        """All triples of a name, an index and a fact, ascending."""
        for name in self._program.names:
            for index, state in enumerate(self._rows[name][0]):
                if state is not None:
                    for fact in state:
                        yield (name, index, fact)

    def _states(self):
        """The list of the states of all lines that are reached."""
        return [state for name in self._program.names for state in self._rows[name][0] if state is not None]

    def __getitem__(self, at):
        if at not in self._program.names:
            raise UnknownName(at)
        return self._rows[at]

    def __iter__(self):
        raise TypeError("a table is iterated over by each")

    def __len__(self):
        return len([fact for state in self._states() for fact in state])

    def __eq__(self, other):
        return isinstance(other, Table) and self._program == other._program

    def __str__(self):
        return f"table of {len(self)} facts, {len(self._states())} lines reached, {len(self._faults)} faults"


def faults_in(program, rows):
    """The list of the triples of a name, an index and a fault of all faults of a table."""
    found = []
    for name in program.names:
        found.extend([(name, index, fault) for index, fault in faults_of_points(program, name, rows[name][0])])
    return found


def faults_of_points(ground, name, points):
    """The list of the pairs of an index and a fault of all states of a function; ground is as in plan_of."""
    found = []
    for index, state in enumerate(points):
        if state is not None:
            faults, _ = go_through(plan_of(ground, name, index, None), list(state))
            found.extend([(index, fault) for fault in faults])
    return found


def _is_row(program, name, value):
    """Whether the value is what a table has for a function."""
    if not isinstance(value, tuple) or len(value) != 2:
        return False
    points, outcomes = value
    if not isinstance(points, tuple) or len(points) != len(program[name]) or not isinstance(outcomes, tuple):
        return False
    if not all([state is None or is_state(program, name, state) for state in points]):
        return False
    if not all([is_outcome(program, name, outcome) for outcome in outcomes]):
        return False
    return do_ascend(outcomes)


def is_table(program, value):
    """Whether the value is a table of the program."""
    check_program(program)
    if not isinstance(value, dict) or len(value) != len(program):
        return False
    return all([name in value and _is_row(program, name, value[name]) for name in program.names])


def _is_within(facts, state):
    """Whether a state is there and has all these facts."""
    if state is None:
        return False
    known = {fact: True for fact in state}
    return all([fact in known for fact in facts])


def _is_line_closed(program, rows, name, index):
    """Whether a table has all that follows from a line of it that is reached."""
    points, outcomes = rows[name]
    step, nexts = program[name][index]
    facts = list(points[index])
    if step[0] == "return":
        return all([outcome in outcomes for outcome in outcomes_of_return(program, name, index, facts)])
    for outcome in rows[step[2]][1] if step[0] == "call" else (None,):
        behind = facts_behind(plan_of(program, name, index, outcome), facts)
        if not all([_is_within(behind, points[following]) for following in nexts]):
            return False
    return True


def is_closed(program, value):
    """Whether the value is a closed table of the program, with or without faults."""
    if not is_table(program, value):
        return False
    for name in program.names:
        points, _ = value[name]
        if not _is_within(start_state(program, name), points[0]):
            return False
        reached = [index for index, state in enumerate(points) if state is not None]
        if not all([_is_line_closed(program, value, name, index) for index in reached]):
            return False
    return True


def is_contained(program, one, other):
    """Whether one table is contained in another one."""
    for value in (one, other):
        if not is_table(program, value):
            raise InvalidTable("this is no table of the program")
    for name in program.names:
        points, outcomes = one[name]
        other_points, other_outcomes = other[name]
        if not all([outcome in other_outcomes for outcome in outcomes]):
            return False
        if not all([state is None or _is_within(state, more) for state, more in zip(points, other_points)]):
            return False
    return True
