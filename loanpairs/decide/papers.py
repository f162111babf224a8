"""Certificates: tables that show that a program is sound, and runs that show that it is not."""

from loanpairs.base.programs import check_program, line_of
from loanpairs.core.walks import Walk, is_walk
from loanpairs.decide.search import Search
from loanpairs.decide.shortest import Fewest
from loanpairs.decide.tables import Table, faults_in, is_closed
from loanpairs.errors import NotReached


def certificate(program):
    """A closed table without a fault, or walk lines of a run with a fault."""
    table = Table(program)
    if table.is_sound:
        return ("table", table.rows)
    return ("run", Fewest(program).faulty_run())


def is_certificate(program, value):
    """Whether the value is a certificate of the program."""
    check_program(program)
    if not isinstance(value, tuple) or len(value) != 2:
        return False
    word, told = value
    if word == "table":
        return is_closed(program, told) and faults_in(program, told) == []
    return word == "run" and is_walk(program, told) and _has_only_a_last_fault(Walk(program, told))


def _has_only_a_last_fault(walk):
    return walk.is_run and walk.faults != ()


def is_sound(program):
    """Whether no walk of any function of the program has a fault."""
    return Table(program).is_sound


def sound_functions(program):
    """The names of the functions that have no fault, and call none that has one, ascending."""
    faulty = [told[0] for told in Table(program).faults]
    return tuple([name for name in program.names if not any([other in faulty for other in program.needed(name)])])


def faulting_walk(program, name, index, fault):
    """The walk lines of a walk whose last step is that of this line and has this fault."""
    line_of(program, name, index)
    search = Search(program)
    goal = search.goal_of_fault(name, index, fault) if _is_like_a_fault(fault) else None
    if goal is None:
        raise NotReached(index)
    return search.lines_to(goal, True)


def _is_like_a_fault(value):
    """Whether the value can be asked for among faults: True is equal to 1, but is no index of an argument."""
    if not isinstance(value, tuple) or len(value) != 2 or not isinstance(value[0], str):
        return False
    return isinstance(value[1], (int, str)) and not isinstance(value[1], bool)
