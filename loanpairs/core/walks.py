"""Walks of functions, told by walk lines."""

from loanpairs.base.programs import check_program, function_of
from loanpairs.base.words import is_index, is_integer
from loanpairs.core.actions import go_through, outcomes_of_return, plan_of
from loanpairs.core.facts import start_state
from loanpairs.errors import InvalidNumber, InvalidOperation, InvalidWalk, TooMany

MAX_PAIRS = 2000
MAX_WAY = 2000


class Stop:
    """A state that walks of a function come to, and the steps from there that were worked out."""

    def __init__(self, whose, state):
        self.whose = whose
        self.facts = state
        self.onward = {}


class Guide:
    """What the steps of a program do to the states that its walks come to, each worked out once."""

    def __init__(self, program):
        self.ground = program
        self._stops = {}

    def stop(self, whose, state):
        """The stop of a function with this state."""
        if (whose, state) not in self._stops:
            self._stops[whose, state] = Stop(whose, state)
        return self._stops[whose, state]

    def does_call(self, whose, line, called):
        """Whether the step of a line calls this function."""
        step, _ = self.ground[whose][line]
        return step[0] == "call" and step[2] == called

    def step_from(self, stop, line, outcome):
        """What a step from a stop does; for a call the outcome is that of the called walk, or None without one.

        Whether it is no call without a called walk, its nexts, its faults, the outcome of a return or None, and
        the stop behind, or None.
        """
        if (line, outcome) not in stop.onward:
            stop.onward[line, outcome] = self._work_out(stop, line, outcome)
        return stop.onward[line, outcome]

    def _work_out(self, stop, line, outcome):
        step, nexts = self.ground[stop.whose][line]
        faults, facts = go_through(plan_of(self.ground, stop.whose, line, outcome), list(stop.facts))
        outcomes = outcomes_of_return(self.ground, stop.whose, line, stop.facts)
        ending = outcomes[0] if outcomes != [] else None
        is_whole = step[0] != "call" or outcome is not None
        if step[0] == "return" or not is_whole:
            return (is_whole, (), faults, ending, None)
        return (is_whole, nexts, faults, ending, self.stop(stop.whose, tuple(sorted(set(facts)))))


class Course:
    """How far a way has come: its states, faults, and what it can go on to."""

    def __init__(self, start):
        self.whose = start.whose
        self.here = start
        self.passed = [start.facts]
        self.wrong = []
        self.length = 0
        self.total = 0
        self.ending = None
        self.following = (0,)
        # Whether no called walk has a fault, in its own steps or further down.
        self.is_calm = True


def _twin(guide, course):
    twin = Course(guide.stop(course.whose, course.passed[-1]))
    twin.passed, twin.wrong = list(course.passed), list(course.wrong)
    twin.length, twin.total, twin.following = course.length, course.total, course.following
    twin.ending, twin.is_calm = course.ending, course.is_calm
    return twin


def _go_on(guide, course, line, inner):
    """Makes one more step, with the course of the called walk or None, and tells whether it is one."""
    if not is_integer(line) or line not in course.following:
        return False
    if inner is not None and (inner.ending is None or not guide.does_call(course.whose, line, inner.whose)):
        return False
    outcome = None if inner is None else inner.ending
    is_whole, nexts, faults, ending, behind = guide.step_from(course.here, line, outcome)
    if not is_whole and faults == []:
        return False
    if inner is not None:
        course.total = course.total + inner.total
        course.is_calm = course.is_calm and inner.is_calm and inner.wrong == []
    for fault in faults:
        course.wrong.append((course.length, fault))
    course.length = course.length + 1
    course.total = course.total + 1
    course.ending = ending
    course.following = nexts
    if behind is not None:
        course.here = behind
        course.passed.append(behind.facts)
    return True


def _courses(program, value):
    """The list of the courses of walk lines, or None if the value is none."""
    if not isinstance(value, tuple) or not 1 <= len(value) <= MAX_PAIRS:
        return None
    guide, courses = Guide(program), []
    for pair in value:
        if not isinstance(pair, tuple) or len(pair) != 2 or pair[0] not in program.names:
            return None
        course = _course(guide, pair[0], pair[1], courses)
        if course is None:
            return None
        courses.append(course)
    return courses


def _course(guide, whose, way, courses):
    """The course of this way, or None; the courses of the earlier pairs are given."""
    if not isinstance(way, tuple) or len(way) > MAX_WAY:
        return None
    course = Course(guide.stop(whose, start_state(guide.ground, whose)))
    for step in way:
        if not isinstance(step, tuple) or len(step) != 2:
            return None
        line, inner = step
        if inner is not None and not is_index(inner, len(courses)):
            return None
        if not _go_on(guide, course, line, None if inner is None else courses[inner]):
            return None
    return course


def is_walk(program, value):
    """Whether the value is walk lines of the program."""
    check_program(program)
    return _courses(program, value) is not None


def _with_indices(pair, indices):
    """The pair with other indices of the called walks."""
    name, way = pair
    return (name, tuple([(line, None if inner is None else indices[inner]) for line, inner in way]))


def _leading_to(lines, target):
    """The lines that the pair with the index target needs, in their order."""
    needed = [False] * target + [True]
    for index in range(target, -1, -1):
        if needed[index]:
            for _, inner in lines[index][1]:
                if inner is not None:
                    needed[inner] = True
    indices, kept = [], []
    for index, is_needed in enumerate(needed):
        indices.append(len(kept))
        if is_needed:
            kept.append(_with_indices(lines[index], indices))
    return tuple(kept)


def _without_twins(lines):
    """The same lines, no two of them alike."""
    indices, known = [], {}
    for pair in lines:
        told = _with_indices(pair, indices)
        if told not in known:
            known[told] = len(known)
        indices.append(known[told])
    return tuple(list(known))


def _longer_lines(lines, index, called):
    """Walk lines with one more step, whose called walk is told by other lines, if there are any.

    No two lines are alike if this is so for both, and all are needed.
    """
    name, way = lines[-1]
    if called == ():
        return (*lines[:-1], (name, (*way, (index, None))))
    known = {pair: number for number, pair in enumerate(lines[:-1])}
    indices = []
    for pair in called:
        indices.append(known.setdefault(_with_indices(pair, indices), len(known)))
    return (*list(known), (name, (*way, (index, indices[-1]))))


def _tell_same(lines, others):
    """Whether two tuples of walk lines tell the same walk."""
    known = {}
    ends = []
    for told in (lines, others):
        indices = []
        for pair in told:
            key = _with_indices(pair, indices)
            if key not in known:
                known[key] = len(known)
            indices.append(known[key])
        ends.append(indices[-1])
    return ends[0] == ends[1]


class Walk:
    """A walk of a function; it never changes."""

    def __init__(self, program, lines):
        check_program(program)
        courses = _courses(program, lines)
        if courses is None:
            raise InvalidWalk("these are no walk lines of the program")
        self._program = program
        self._lines = lines
        self._course = courses[-1]
        # What the last pair needs, each once: to this the walks that are longer add.
        self._needed = _without_twins(_leading_to(lines, len(lines) - 1))

    @classmethod
    def begin(cls, program, name):
        """The walk of this function that has not begun."""
        function_of(program, name)
        return cls(program, ((name, ()),))

    @property
    def program(self):
        """Its program."""
        return self._program

    @property
    def lines(self):
        """Its walk lines."""
        return self._lines

    @property
    def name(self):
        """The name of its function."""
        return self._lines[-1][0]

    @property
    def way(self):
        """The pairs of a line and the index of a called walk of its own steps."""
        return self._lines[-1][1]

    @property
    def states(self):
        """The states ahead of its steps, and the one behind them, if there is one."""
        return tuple(self._course.passed)

    @property
    def faults(self):
        """The pairs of a position and a fault of its own steps."""
        return tuple(self._course.wrong)

    @property
    def outcome(self):
        """The outcome that it returns with, or None."""
        return self._course.ending

    @property
    def is_run(self):
        """Whether only its last step can have a fault, and no called walk has one."""
        last = self._course.length - 1
        return self._course.is_calm and all([position == last for position, _ in self._course.wrong])

    @property
    def steps(self):
        """The number of its steps and of those of all walks that it calls."""
        return self._course.total

    @property
    def nexts(self):
        """The lines that can come next, ascending."""
        return self._course.following

    def inner(self, position):
        """The walk that is called at this position."""
        way = self._lines[-1][1]
        if not is_index(position, len(way)) or way[position][1] is None:
            raise InvalidNumber(position)
        return Walk(self._program, _leading_to(self._lines, way[position][1]))

    def longer(self, index, inner=None):
        """The walk with one more step, of this line; inner is the walk that a call calls."""
        if not is_integer(index) or index not in self._course.following:
            raise InvalidNumber(index)
        if inner is not None and (not isinstance(inner, Walk) or inner._program != self._program):
            raise InvalidOperation("a called walk is a walk of the same program")
        guide = Guide(self._program)
        course = _twin(guide, self._course)
        if not _go_on(guide, course, index, None if inner is None else inner._course):
            raise InvalidOperation("the called walk does not suit this step")
        lines = _longer_lines(self._needed, index, () if inner is None else inner._needed)
        if course.length > MAX_WAY or len(lines) > MAX_PAIRS:
            raise TooMany(MAX_WAY)
        longer = Walk(self._program, ((lines[-1][0], ()),))
        longer._lines = longer._needed = lines
        longer._course = course
        return longer

    def __len__(self):
        return len(self._lines[-1][1])

    def __eq__(self, other):
        return (
            isinstance(other, Walk)
            and self._program == other._program
            and _tell_same(self._lines, other._lines)
        )

    def __str__(self):
        return f"walk of {self.name}: {len(self.way)} steps, {len(self._course.wrong)} faults"
