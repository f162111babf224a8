"""What is true of all walks of a program, found by going through the states of walks, not fact by fact."""

from loanpairs.core.facts import faults_at, outcomes_at, start_state, state_behind


class Oracle:
    """The fewest steps of walks to each line with each state, to each outcome, and to each fault."""

    def __init__(self, told, most=4000):
        self.told = told
        self.places = {(name, 0, start_state(told, name)): 0 for name in told.names}
        self.outcomes = {}
        self.faults = {}
        self.is_whole = True
        self.memo = {}
        changed = True
        while changed and self.is_whole:
            before = dict(self.places), dict(self.outcomes), dict(self.faults)
            for place in list(self.places):
                self.go_on(place)
            changed = before != (self.places, self.outcomes, self.faults)
            self.is_whole = len(self.places) <= most

    def go_on(self, place):
        name, index, state = place
        steps = self.places[place]
        step, nexts = self.told[name][index]
        if place not in self.memo:
            self.memo[place] = faults_at(self.told, name, index, state), outcomes_at(self.told, name, index, state)
        faults, found = self.memo[place]
        for fault in faults:
            self.lower(self.faults, (name, index, fault), steps + 1)
        if step[0] == "return":
            assert len(found) <= 1
            for outcome in found:
                self.lower(self.outcomes, (name, outcome), steps + 1)
        elif step[0] == "call":
            for (called, outcome), many in list(self.outcomes.items()):
                if called == step[2]:
                    self.pass_on(place, nexts, outcome, steps + 1 + many)
        else:
            self.pass_on(place, nexts, None, steps + 1)

    def pass_on(self, place, nexts, outcome, steps):
        if (place, outcome) not in self.memo:
            self.memo[place, outcome] = state_behind(self.told, *place, outcome)
        for following in nexts:
            self.lower(self.places, (place[0], following, self.memo[place, outcome]), steps)

    def lower(self, known, key, steps):
        known[key] = min(steps, known.get(key, steps))

    def rows(self):
        """The table that just the walks need."""
        rows = {}
        for name in self.told.names:
            points = []
            for index in range(len(self.told[name])):
                states = [state for other, at, state in self.places if (other, at) == (name, index)]
                points.append(tuple(sorted(set().union(*states))) if states else None)
            outcomes = tuple(sorted(outcome for other, outcome in self.outcomes if other == name))
            rows[name] = (tuple(points), outcomes)
        return rows

    def fewest(self, name, index, fact):
        """The fewest steps to a fact at a line, or to the line, or None."""
        found = [steps for (other, at, state), steps in self.places.items()
                 if (other, at) == (name, index) and (fact is None or fact in state)]
        return min(found) if found else None

    def fewest_faults(self, name):
        found = [steps for (other, _, _), steps in self.faults.items() if other == name]
        return min(found) if found else None


def seen_by_outcomes(told, name, outcomes):
    """The pairs of a line and a state of the walks of a function when its calls have any of these outcomes."""
    tasks, seen = [(0, start_state(told, name))], set()
    while tasks:
        index, state = tasks.pop()
        if (index, state) in seen:
            continue
        seen.add((index, state))
        step, nexts = told[name][index]
        if step[0] != "return":
            for outcome in outcomes[step[2]] if step[0] == "call" else [None]:
                behind = state_behind(told, name, index, state, outcome)
                tasks += [(following, behind) for following in nexts]
    return seen


def by_outcomes(told, name, outcomes):
    """The faults and outcomes of a function when its calls have any of these outcomes."""
    faults, found = set(), set()
    for index, state in seen_by_outcomes(told, name, outcomes):
        faults |= {(index, fault) for fault in faults_at(told, name, index, state)}
        found |= set(outcomes_at(told, name, index, state))
    return faults, found
