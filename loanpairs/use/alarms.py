"""A usual check, which does not follow what loan a reference holds at what line."""

from loanpairs.base.programs import function_of
from loanpairs.base.words import do_overlap
from loanpairs.core.actions import plan_of
from loanpairs.decide.tables import Table


class Loans:
    """The loans of a function, and what its references and arguments may hold.

    A holder is the name of a variable, or a pair of a line and the index of an argument.
    """

    def __init__(self, table, name):
        self._table = table
        self._called = table.program[name]
        self._loans = []
        # For each holder the loans that it gets itself, and the holders of which it may hold all.
        self._gets = {}
        self._sources = {}
        for index, (step, _) in enumerate(self._called.lines):
            if step[0] == "lend":
                self._add_loan(step[1], (index, 0), step[2], step[3], self._called.kind(step[1]))
            elif step[0] == "move":
                self._add_source(step[1], step[2])
            elif step[0] == "call":
                self._add_call(index, step)
        self._held = {holder: self._work_out(holder) for holder in list(self._sources)}

    def _add_loan(self, holder, loan, lent, part, way):
        self._loans.append((loan, lent, part, way))
        self._gets.setdefault(holder, []).append(loan)
        self._add_source(holder, lent)

    def _add_source(self, holder, source):
        self._sources.setdefault(holder, []).append(source)

    def _add_call(self, index, step):
        parameters = self._table.program[step[2]].parameters
        for place, (argument, (_, kind)) in enumerate(zip(step[3], parameters)):
            if argument[0] == "lend":
                self._add_loan((index, place), (index, place + 1), argument[1], argument[2], kind)
            else:
                self._add_source((index, place), argument[1])
        places = {parameter: place for place, (parameter, _) in enumerate(parameters)}
        for outcome in self._table.outcomes_of(step[2]):
            if outcome[0] == "from":
                self._add_source(step[1], (index, places[outcome[1]]))

    def _work_out(self, holder):
        """The loans that a holder may hold, as a dict of True."""
        found, met, holders = {}, {holder: True}, [holder]
        while holders != []:
            source = holders.pop()
            for loan in self._gets.get(source, []):
                found[loan] = True
            fresh = [other for other in self._sources.get(source, []) if other not in met]
            for other in fresh:
                met[other] = True
                holders.append(other)
        return found

    def all_told(self):
        """The list of all loans, each with the variable and the part that it lends, and the way."""
        return list(self._loans)

    def may_have(self, holder, loan):
        """Whether a holder may hold a loan."""
        return loan in self._held.get(holder, {})

    def all_of(self, holder):
        """All loans that a holder may hold, ascending."""
        return tuple(sorted(list(self._held.get(holder, {}))))


def _references_of(function):
    """The list of the names of the references among the variables, ascending."""
    return sorted([name for name in function.names if function.kind(name) != "own"])


def may_hold(program, name):
    """A dict from the references among the variables to the loans that they may hold."""
    function = function_of(program, name)
    loans = Loans(Table(program), name)
    return {reference: loans.all_of(reference) for reference in _references_of(function)}


def _filled_by(step):
    """The variable that a step fills, or an empty string."""
    return step[1] if step[0] in ("new", "copy", "take", "lend", "move", "call") else ""


def _acts_of(program, name, index):
    """The list of the actions of a step, each with the index of its group."""
    _, groups = plan_of(program, name, index, None)
    return [(number, action) for number, group in enumerate(groups) for action in group]


def _needed_in(acts):
    """The list of the names of the variables that some actions need."""
    return [action[1] for _, action in acts if action[0] == "need"]


def _wanted_behind(program, name):
    """The list of the lists of the references that are wanted behind each line, ascending."""
    function = program[name]
    needed = [_needed_in(_acts_of(program, name, index)) for index in range(len(function))]
    behind = [[] for _ in needed]
    for reference in _references_of(function):
        # The lines ahead of which it is wanted; it is wanted behind those that lead there.
        found = [index for index, names in enumerate(needed) if reference in names]
        met = {index: True for index in found}
        while found != []:
            leading = function.ahead(found.pop())
            for index in leading:
                if reference not in behind[index]:
                    behind[index].append(reference)
                step, _ = function[index]
                if index not in met and _filled_by(step) != reference:
                    met[index] = True
                    found.append(index)
    return behind


def wanted(program, name):
    """The references that are wanted behind each line, each an ascending tuple."""
    function_of(program, name)
    return tuple([tuple(names) for names in _wanted_behind(program, name)])


def _lasting_to(function, loan, lent):
    """The lines that a loan of a variable lasts to, as a dict of True."""
    found, lasts = [loan[0]], {}
    while found != []:
        step, nexts = function[found.pop()]
        fresh = [index for index in nexts if index not in lasts and _filled_by(step) != lent]
        for index in fresh:
            lasts[index] = True
            found.append(index)
    return lasts


class Check:
    """What the usual check of a function has to know of it."""

    def __init__(self, table, name):
        self._ground = table.program
        self._called = table.program[name]
        self._loans = Loans(table, name)
        self._behind = _wanted_behind(table.program, name)
        self._lasting = {
            loan: _lasting_to(self._called, loan, lent) for loan, lent, _, _ in self._loans.all_told()
        }
        self._returned = [step[1] for step, _ in self._called.lines if step[0] == "return"]

    def alarms_at(self, index):
        """The loans of the alarms of a line, ascending, each once."""
        step, _ = self._called[index]
        found = self._returned_at(index, step[1]) if step[0] == "return" else []
        acts = _acts_of(self._ground, self._called.called, index)
        for position, (group, action) in enumerate(acts):
            if action[0] == "use":
                earlier = []
                if step[0] == "call" and group < len(step[3]):
                    earlier = [(index, place) for place in range(group)]
                holders = self._holders_at(index) + _needed_in(acts[position + 1:])
                found = found + self._hit_by(action, index, earlier, holders)
        return sorted(set(found))

    def _returned_at(self, index, name):
        """The loans of owners that last to a return and that the returned reference may hold."""
        return [
            loan for loan, lent, _, _ in self._loans.all_told()
            if self._called.kind(lent) == "own" and self._is_held(index, loan, [name])
        ]

    def _holders_at(self, index):
        """The references that can be used behind the step of a line as they are."""
        step, _ = self._called[index]
        return [name for name in self._behind[index] if name != _filled_by(step)] + self._returned

    def _is_held(self, index, loan, holders):
        """Whether a loan lasts to a line and one of these may hold it."""
        return index in self._lasting[loan] and any([self._loans.may_have(holder, loan) for holder in holders])

    def _hit_by(self, use, index, earlier, holders):
        """The list of the held loans that a use goes against."""
        _, used, part, way = use
        found = []
        for loan, lent, lent_part, lent_way in self._loans.all_told():
            if lent != used or not do_overlap(part, lent_part) or "full" not in (way, lent_way):
                continue
            if any([self._loans.may_have(holder, loan) for holder in earlier]):
                found.append(loan)
            elif self._is_held(index, loan, holders):
                found.append(loan)
        return found


def _alarms_in(table, name):
    """The alarms of a function, ascending; the least table of its program is given."""
    check = Check(table, name)
    many = len(table.program[name])
    return tuple([(index, loan) for index in range(many) for loan in check.alarms_at(index)])


def alarms(program, name):
    """The pairs of a line and a loan of all alarms of a function, ascending."""
    return _alarms_in(Table(program), name)


def each_alarm(program):
    """The triples of a name, a line and a loan of all alarms of all functions, ascending."""
    table = Table(program)
    for name in program.names:
        for line, loan in _alarms_in(table, name):
            yield (name, line, loan)
