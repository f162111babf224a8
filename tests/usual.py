"""The usual check, word by word as the document tells it, line by line and loan by loan."""

from loanpairs.base.words import do_overlap
from loanpairs.core.facts import uses_at
from loanpairs.decide.tables import Table


def needs_of(step):
    """The variables that a step needs, in order; those of a call once for each argument."""
    if step[0] == "call":
        return [argument[1] for argument in step[3]]
    if step[0] == "put":
        return [step[3], step[1]]
    if step[0] in ("copy", "take", "lend", "move"):
        return [step[2]]
    return [step[1]] if step[0] in ("touch", "return") and step[1] else []


def filled_by(step):
    return step[1] if step[0] in ("new", "copy", "take", "lend", "move", "call") else ""


class Usual:
    def __init__(self, told, name):
        self.told, self.name = told, name
        self.lines = told[name].lines
        self.kinds = {x: told[name].kind(x) for x in told[name].names}
        self.references = sorted(x for x in self.kinds if self.kinds[x] != "own")
        self.loans = {}
        for index, (step, _) in enumerate(self.lines):
            if step[0] == "lend":
                self.loans[index, 0] = (step[2], step[3], self.kinds[step[1]])
            if step[0] == "call":
                for at, argument in enumerate(step[3]):
                    if argument[0] == "lend":
                        kind = told[step[2]].parameters[at][1]
                        self.loans[index, at + 1] = (argument[1], argument[2], kind)
        self.hold = self.may_hold()

    def may_hold(self):
        """The pairs of a holder and a loan, until no step adds one."""
        found, before = set(), None
        table = Table(self.told)
        while before != len(found):
            before = len(found)
            for index, (step, _) in enumerate(self.lines):
                if step[0] == "lend":
                    self.give(found, step[1], [step[2]], (index, 0))
                if step[0] == "move":
                    self.give(found, step[1], [step[2]], None)
                if step[0] == "call":
                    for at, argument in enumerate(step[3]):
                        loan = (index, at + 1) if argument[0] == "lend" else None
                        self.give(found, (index, at), [argument[1]], loan)
                    names = [parameter for parameter, _ in self.told[step[2]].parameters]
                    outcomes = [x for x in table.outcomes_of(step[2]) if x[0] == "from"]
                    self.give(found, step[1], [(index, names.index(x[1])) for x in outcomes], None)
        return found

    def give(self, found, holder, sources, loan):
        found |= {(holder, other) for source, other in list(found) if source in sources}
        if loan is not None:
            found.add((holder, loan))

    def holds(self, holders, loan):
        return any((holder, loan) in self.hold for holder in holders)

    def held_by(self, holder):
        return tuple(sorted(loan for other, loan in self.hold if other == holder))

    def is_wanted_behind(self, index, reference):
        tasks, seen = list(self.lines[index][1]), set()
        while tasks:
            line = tasks.pop()
            step, nexts = self.lines[line]
            if reference in needs_of(step):
                return True
            if line not in seen and filled_by(step) != reference:
                seen.add(line)
                tasks += nexts
        return False

    def wanted(self):
        return tuple(tuple(x for x in self.references if self.is_wanted_behind(index, x))
                     for index in range(len(self.lines)))

    def lasts(self, loan, target):
        lent = self.loans[loan][0]
        tasks, seen = [loan[0]], set()
        while tasks:
            line = tasks.pop()
            step, nexts = self.lines[line]
            if filled_by(step) == lent or line in seen:
                continue
            if target in nexts:
                return True
            seen.add(line)
            tasks += nexts
        return False

    def uses(self, index):
        """The uses of a step, each with the index of its argument or None, and what is needed behind it."""
        step = self.lines[index][0]
        told = uses_at(self.told, self.name, index)
        needs = needs_of(step)
        if step[0] == "call":
            behind = [(at, needs[at + 1:]) for at in range(len(needs))] + [(None, [])]
        elif step[0] == "put":
            behind = [(None, [step[1]]), (None, [])]
        else:
            behind = [(None, [])] * 2
        return [(use, *more) for use, more in zip(told, behind)]

    def alarms(self):
        found = set()
        for index, (step, _) in enumerate(self.lines):
            returned = [line[1] for line, _ in self.lines if line[0] == "return"]
            waiting = [x for x in self.references if self.is_wanted_behind(index, x) and filled_by(step) != x]
            for (variable, part, way), at, needed in self.uses(index):
                for loan, (lent, lent_part, lent_way) in self.loans.items():
                    if lent != variable or not do_overlap(part, lent_part) or (way, lent_way) == ("look", "look"):
                        continue
                    earlier = [(index, place) for place in range(at or 0)]
                    lasting = self.lasts(loan, index) and self.holds([*needed, *waiting, *returned], loan)
                    if self.holds(earlier, loan) or lasting:
                        found.add((index, loan))
            if step[0] == "return":
                found |= {(index, loan) for loan, (lent, _, _) in self.loans.items()
                          if self.kinds[lent] == "own" and self.holds([step[1]], loan) and self.lasts(loan, index)}
        return tuple(sorted(found))
