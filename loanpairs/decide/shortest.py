"""The fewest steps to lines, facts, outcomes and faults."""

from loanpairs.base.programs import by_name, check_program, function_of, line_of
from loanpairs.core.actions import outcomes_of_return
from loanpairs.core.facts import is_fact, is_outcome, start_state
from loanpairs.decide.search import Flow, Plans, Search
from loanpairs.errors import InvalidOperation, InvalidState, NotReached


class Fewest:
    """The fewest steps of a program; it never changes."""

    def __init__(self, program):
        check_program(program)
        self._program = program
        self._search = Search(program)
        told = [(self.to_fault(name), name) for name in program.names]
        faulty = sorted([pair for pair in told if pair[0] is not None])
        self._fault, self._faulty = faulty[0] if faulty != [] else (None, None)
        self._reached = [
            (name, index) for name in program.names for index in range(len(program[name]))
            if self._search.steps_to((name, index, None)) is not None
        ]

    @property
    def program(self):
        """Its program."""
        return self._program

    @property
    def fault(self):
        """The fewest steps to a fault in any function, or None."""
        return self._fault

    def _check_fact(self, name, index, fact):
        line_of(self._program, name, index)
        if fact is not None and not is_fact(self._program, name, fact):
            raise InvalidState("this is no fact of the function")

    def _check_outcome(self, name, outcome):
        if not is_outcome(self._program, name, outcome):
            raise InvalidOperation("this cannot be an outcome of the function")

    def to(self, name, index, *, fact=None):
        """The fewest steps to a line, or to a fact there, or None."""
        self._check_fact(name, index, fact)
        return self._search.steps_to((name, index, fact))

    def out(self, name, outcome):
        """The fewest steps to an outcome, or None."""
        self._check_outcome(name, outcome)
        return self._search.steps_to((name, outcome))

    def to_fault(self, name):
        """The fewest steps to a fault in a function, or None."""
        function_of(self._program, name)
        goal = self._search.goal_of_faults(name)
        return None if goal is None else self._search.steps_to(goal) + 1

    def walk_to(self, name, index, *, fact=None):
        """The walk lines of a walk with the fewest steps to a line, or to a fact there."""
        self._check_fact(name, index, fact)
        if self._search.steps_to((name, index, None)) is None:
            raise NotReached(index)
        return self._lines_to((name, index, fact))

    def walk_out(self, name, outcome):
        """The walk lines of a walk with the fewest steps to an outcome."""
        self._check_outcome(name, outcome)
        return self._lines_to((name, outcome))

    def _lines_to(self, goal):
        if self._search.steps_to(goal) is None:
            raise InvalidOperation("there is no such walk")
        return self._search.lines_to(goal, False)

    def faulty_walk(self, name):
        """The walk lines of a walk with the fewest steps to a fault in a function."""
        function_of(self._program, name)
        goal = self._search.goal_of_faults(name)
        if goal is None:
            raise InvalidOperation("no walk of this function has a fault")
        return self._search.lines_to(goal, True)

    def faulty_run(self):
        """The walk lines of a run with the fewest steps to a fault, of any function."""
        if self._faulty is None:
            raise InvalidOperation("the program is sound")
        return self.faulty_walk(self._faulty)

    def paper(self):
        """The length paper whose numbers are the fewest steps."""
        told = {}
        for name in self._program.names:
            points = [self._numbers(name, index) for index in range(len(self._program[name]))]
            outcomes = sorted(self._search.outcomes_of(name))
            told[name] = (tuple(points), {outcome: self._search.steps_to((name, outcome)) for outcome in outcomes})
        return told

    def _numbers(self, name, index):
        keys = self._search.facts_at(name, index)
        facts = sorted([fact for fact in keys if fact is not None])
        return {key: self._search.steps_to((name, index, key)) for key in ([None] + facts if keys != [] else [])}

    def __len__(self):
        return len(self._reached)

    def __eq__(self, other):
        return isinstance(other, Fewest) and self._program == other._program

    def __str__(self):
        told = "no fault" if self._fault is None else f"a fault in {self._fault}"
        return f"fewest steps of {len(self._program)} functions, {told}"


def _is_number(value):
    """Whether the value is an integer of at least 0, of any size."""
    return isinstance(value, int) and not isinstance(value, bool) and value >= 0


def _has_numbers(value, keys):
    """Whether the value is a dict from just these keys to numbers."""
    if not isinstance(value, dict) or len(value) != len(keys) or not all([key in value for key in keys]):
        return False
    return all([_is_number(number) for number in value.values()])


def _is_row(value, points, outcomes):
    """Whether the value has numbers for the states and outcomes that the least table has for a function."""
    if not isinstance(value, tuple) or len(value) != 2 or not isinstance(value[0], tuple):
        return False
    if len(value[0]) != len(points) or not _has_numbers(value[1], outcomes):
        return False
    wanted = [() if state is None else (None, *state) for state in points]
    return all([_has_numbers(numbers, keys) for numbers, keys in zip(value[0], wanted)])


def _passes_at_most(plans, value, goal, outcome):
    """Whether the numbers behind a step are not greater than one fact, or None, ahead of it allows."""
    name, index, fact = goal
    step, nexts = plans.ground[name][index]
    points, _ = value[name]
    most = points[index][fact] + 1
    if step[0] == "call":
        most = most + value[step[2]][1][outcome]
    made = list(plans.made_of(name, index, outcome, fact))
    behind = [None] + made if fact is None else made
    return all([points[following][key] <= most for following in nexts for key in behind])


def _returns_at_most(program, value, goal):
    """Whether the numbers of the outcomes of a return are not greater than one fact, or None, allows."""
    name, index, fact = goal
    points, outcomes = value[name]
    found = outcomes_of_return(program, name, index, [])
    if fact is not None:
        found = [outcome for outcome in outcomes_of_return(program, name, index, [fact]) if outcome not in found]
    return all([outcomes[outcome] <= points[index][fact] + 1 for outcome in found])


def _is_line_kept(program, plans, value, name, index):
    """Whether all that follows from a line of a paper has numbers that are not too great."""
    points, _ = value[name]
    step, _ = program[name][index]
    goals = [(name, index, fact) for fact in points[index]]
    if step[0] == "return":
        return all([_returns_at_most(program, value, goal) for goal in goals])
    outcomes = list(value[step[2]][1]) if step[0] == "call" else [None]
    return all([_passes_at_most(plans, value, goal, outcome) for goal in goals for outcome in outcomes])


def is_length_paper(program, value):
    """Whether the value is a length paper of the program."""
    check_program(program)
    functions = by_name(program.functions)
    least = Flow(functions).least()
    if not isinstance(value, dict) or len(value) != len(least):
        return False
    if not all([name in value and _is_row(value[name], least[name][0], least[name][1]) for name in least]):
        return False
    plans = Plans(functions)
    for name in program.names:
        points, _ = value[name]
        if not all([points[0][key] == 0 for key in (None, *start_state(program, name))]):
            return False
        if not all([_is_line_kept(program, plans, value, name, index) for index in range(len(points))]):
            return False
    return True
