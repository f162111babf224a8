"""How facts flow through a program: the least table, and the fewest steps to each of its facts."""

from heapq import heappop, heappush

from loanpairs.base.programs import by_name
from loanpairs.core.actions import facts_behind, go_through, outcomes_of_return, plan_of
from loanpairs.core.facts import start_of, start_state


class Plans:
    """The plans of the steps of functions, each worked out once, and the lines that call each function.

    The functions are a dict from the names by which they are called.
    """

    def __init__(self, functions):
        self.ground = functions
        self._plans = {}
        self._needless = {}
        self._calling = {name: [] for name in functions}
        for name in functions:
            for index, (step, _) in enumerate(functions[name].lines):
                if step[0] == "call":
                    self._calling[step[2]].append((name, index))

    def calls_of(self, name):
        """The list of the pairs of a name and an index of the lines that call a function."""
        return list(self._calling[name])

    def plan(self, name, index, outcome):
        """The plan of a step; for a call, with this outcome."""
        key = (name, index, outcome)
        if key not in self._plans:
            self._plans[key] = plan_of(self.ground, name, index, outcome)
        return self._plans[key]

    def made_of(self, name, index, outcome, fact):
        """The facts that a step makes or keeps of a fact, or, for None, those that need none."""
        if (name, index, outcome) not in self._needless:
            self._needless[name, index, outcome] = facts_behind(self.plan(name, index, outcome), [])
        needless = self._needless[name, index, outcome]
        if fact is None:
            return needless
        return [made for made in facts_behind(self.plan(name, index, outcome), [fact]) if made not in needless]


class Flow:
    """The least table of functions, while it is worked out; they are a dict as in Plans."""

    def __init__(self, functions):
        self._plans = Plans(functions)
        self._ground = functions
        # For each line that is reached its facts, and for each function its outcomes, as dicts of True.
        self._facts = {}
        self._outcomes = {name: {} for name in functions}
        # For each line that is to be gone on from the facts that are new there.
        self._fresh = {}
        for name in functions:
            self._arrive(name, (0,), start_of(functions[name]))
        # What comes to a line in one round is taken further at once in the next one.
        while self._fresh != {}:
            waiting = self._fresh
            self._fresh = {}
            for (name, index), facts in waiting.items():
                self._go_on(name, index, facts)

    def _arrive(self, name, nexts, facts):
        """These facts are at these lines, too; what is new there is to be taken further."""
        for index in nexts:
            is_first = (name, index) not in self._facts
            known = self._facts.setdefault((name, index), {})
            fresh = [fact for fact in facts if fact not in known]
            for fact in fresh:
                known[fact] = True
            if fresh != [] or is_first:
                self._fresh.setdefault((name, index), []).extend(fresh)

    def _go_on(self, name, index, facts):
        """Takes new facts of a line to the lines behind it."""
        step, nexts = self._ground[name][index]
        if step[0] == "return":
            for outcome in outcomes_of_return(self._ground, name, index, facts):
                self._add_outcome(name, outcome)
            return
        outcomes = list(self._outcomes[step[2]]) if step[0] == "call" else [None]
        for outcome in outcomes:
            self._arrive(name, nexts, facts_behind(self._plans.plan(name, index, outcome), facts))

    def _add_outcome(self, called, outcome):
        """With a new outcome each reached call of the function is done once more, with all of its facts."""
        if outcome in self._outcomes[called]:
            return
        self._outcomes[called][outcome] = True
        for name, index in self._plans.calls_of(called):
            if (name, index) in self._facts:
                facts = list(self._facts[name, index])
                _, nexts = self._ground[name][index]
                self._arrive(name, nexts, facts_behind(self._plans.plan(name, index, outcome), facts))

    def least(self):
        """The least table."""
        told = {}
        for name in self._ground:
            points = [self._point(name, index) for index in range(len(self._ground[name]))]
            told[name] = (tuple(points), tuple(sorted(list(self._outcomes[name]))))
        return told

    def _point(self, name, index):
        if (name, index) not in self._facts:
            return None
        return tuple(sorted(list(self._facts[name, index])))


class Search:
    """The fewest steps to each line, fact, outcome and fault, each with the way that leads there.

    A goal is a triple (name, index, fact), with None for the line alone, or a pair (name, outcome). Goals are
    settled in the order of their fewest steps: no step and no called walk makes a walk shorter, so what is
    settled first has nothing shorter ahead of it. Of each settled goal the fewest steps and the origin are
    kept: the goal ahead of the last step, and the outcome of the walk that this step calls, or None.
    """

    def __init__(self, program):
        self._plans = Plans(by_name(program.functions))
        self._ground = program
        self._settled = {}
        self._outcomes = {name: [] for name in program.names}
        self._facts = {}
        self._faults = {}
        self._worst = {}
        self._queue = []
        self._told = []
        for name in program.names:
            for fact in (None, *start_state(program, name)):
                self._offer(0, (name, 0, fact), None, None)
        while self._queue != []:
            steps, number = heappop(self._queue)
            goal, origin, outcome = self._told[number]
            if goal not in self._settled:
                self._settled[goal] = (steps, origin, outcome)
                self._settle(goal, steps)

    def _offer(self, steps, goal, origin, outcome):
        if goal not in self._settled:
            # The number keeps goals from being compared, which cannot be.
            heappush(self._queue, (steps, len(self._told)))
            self._told.append((goal, origin, outcome))

    def _settle(self, goal, steps):
        """Offers what comes behind a goal that was just settled."""
        if len(goal) == 2:
            called, outcome = goal
            self._outcomes[called].append(outcome)
            for name, index in self._plans.calls_of(called):
                for fact in list(self._facts.get((name, index), [])):
                    self._pass_step((name, index, fact), outcome)
            return
        name, index, fact = goal
        self._facts.setdefault((name, index), []).append(fact)
        facts = [] if fact is None else [fact]
        faults, _ = go_through(self._plans.plan(name, index, None), facts)
        for fault in faults:
            self._faults.setdefault((name, index, fault), goal)
            self._worst.setdefault(name, goal)
        step, _ = self._ground[name][index]
        if step[0] == "return":
            for outcome in outcomes_of_return(self._ground, name, index, facts):
                self._offer(steps + 1, (name, outcome), goal, None)
        elif step[0] == "call":
            for outcome in list(self._outcomes[step[2]]):
                self._pass_step(goal, outcome)
        else:
            self._pass_step(goal, None)

    def _pass_step(self, goal, outcome):
        """Offers what is behind the step of a settled goal, if the walk that it calls has this outcome."""
        name, index, fact = goal
        step, nexts = self._ground[name][index]
        steps = self.steps_to(goal) + 1
        if step[0] == "call":
            steps = steps + self.steps_to((step[2], outcome))
        made = list(self._plans.made_of(name, index, outcome, fact))
        for behind in [None] + made if fact is None else made:
            for following in nexts:
                self._offer(steps, (name, following, behind), goal, outcome)

    def steps_to(self, goal):
        """The fewest steps to a goal, or None."""
        settled = self._settled.get(goal)
        return None if settled is None else settled[0]

    def facts_at(self, name, index):
        """The list of the facts of a line, with None for the line itself; it is empty if it is not reached."""
        return list(self._facts.get((name, index), []))

    def outcomes_of(self, name):
        """The list of the outcomes of a function."""
        return list(self._outcomes[name])

    def goal_of_fault(self, name, index, fault):
        """The goal with the fewest steps of a walk whose next step has the fault, or None."""
        return self._faults.get((name, index, fault))

    def goal_of_faults(self, name):
        """The goal with the fewest steps of a walk of a function whose next step has any fault, or None."""
        return self._worst.get(name)

    def _way_to(self, goal):
        """The list of the pairs of a line and of an outcome of its called walk on the way to a goal."""
        way = []
        _, origin, outcome = self._settled[goal]
        while origin is not None:
            way.append((origin[1], outcome))
            _, origin, outcome = self._settled[origin]
        return way[::-1]

    def lines_to(self, goal, is_step_added):
        """The walk lines of a walk with the fewest steps to a goal, perhaps with the step behind it."""
        ways = {goal: self._way_to(goal)}
        if is_step_added:
            ways[goal].append((goal[1], None))
        wanted = self._callees(goal[0], ways[goal])
        while wanted != []:
            called = wanted.pop()
            if called not in ways:
                ways[called] = self._way_to(called)
                wanted.extend(self._callees(called[0], ways[called]))
        # A called walk has fewer steps than the one that calls it, and so its pair comes ahead.
        inner = [(self.steps_to(called), number, called) for number, called in enumerate(ways) if called != goal]
        ordered = [called for _, _, called in sorted(inner)] + [goal]
        places = {called: number for number, called in enumerate(ordered)}
        return tuple([(whose[0], self._told_way(whose[0], ways[whose], places)) for whose in ordered])

    def _callee(self, name, line, outcome):
        """The goal of the walk that is called in a line and returns with an outcome."""
        step, _ = self._ground[name][line]
        return (step[2], outcome)

    def _callees(self, name, way):
        """The list of the goals of the walks that are called on a way of a function."""
        return [self._callee(name, line, outcome) for line, outcome in way if outcome is not None]

    def _told_way(self, name, way, places):
        return tuple([
            (line, None if outcome is None else places[self._callee(name, line, outcome)]) for line, outcome in way
        ])
