"""Runs gone through with places and ages, without facts."""

from loanpairs.core.walks import Walk
from loanpairs.errors import InvalidOperation, TooMany, UnknownName

MAX_UNFOLDED = 20000


class Cell:
    """What a held variable holds: a place and an age, which is 0 for owners."""

    def __init__(self, root, path, since, is_full):
        self.root = root
        self.path = path
        self.since = since
        self.is_full = is_full
        self.is_ended = False
        self.is_gone = False


class Frame:
    """A function that is running or that waits: its cells by variable, and how far its way has come."""

    def __init__(self, whose, at, cells):
        self.whose = whose
        self.at = at
        self.position = 0
        self.cells = cells


def _place(cell, part):
    return cell.path if part == "" else (*cell.path, part)


def _do_meet(one, other):
    """Whether one path begins the other one."""
    many = min(len(one), len(other))
    return one[:many] == other[:many]


class Machine:
    """The trees and references of a run, up to some step."""

    def __init__(self, program, lines):
        self.ground = program
        self.ways = [way for _, way in lines]
        self.many_roots = 0
        self.many_ages = 0
        # For each root the references that can still end, ascending by age; those that are gone can be among them.
        self.reaching = []
        whose = lines[-1][0]
        cells = {}
        for name, kind in program[whose].parameters:
            cells[name] = self.new_tree()
            if kind != "own":
                cells[name] = self.new_reference(cells[name].root, (), kind)
        self.frames = [Frame(whose, len(lines) - 1, cells)]

    def new_tree(self):
        """The cell of an owner with a new tree."""
        self.many_roots = self.many_roots + 1
        self.reaching.append([])
        return Cell(self.many_roots - 1, (), 0, True)

    def new_reference(self, root, path, kind):
        """The cell of a reference that a variable gets now."""
        self.many_ages = self.many_ages + 1
        cell = Cell(root, path, self.many_ages, kind == "full")
        self.reaching[root].append(cell)
        return cell

    def use(self, cell, part, way):
        """Ends all younger references whose place overlaps the used one."""
        path, rows, kept = _place(cell, part), self.reaching[cell.root], []
        # What has ended needs to be ended no more, and what is gone never: so a use looks at few references.
        while rows != [] and rows[-1].since > cell.since:
            other = rows.pop()
            if other.is_gone:
                continue
            if (way == "full" or other.is_full) and _do_meet(path, other.path):
                other.is_ended = True
            else:
                kept.append(other)
        rows.extend(kept[::-1])

    def fault_of_need(self, name):
        """What is wrong about needing a variable of the running function, or nothing; None if nothing is."""
        if name == "":
            return None
        cell = self.frames[-1].cells.get(name)
        if cell is None:
            return ("empty", name)
        return ("ended", name) if cell.is_ended else None

    def fill(self, name, cell):
        """Gives a cell to a variable of the running function."""
        frame = self.frames[-1]
        self.empty(name, frame.whose)
        frame.cells[name] = cell

    def empty(self, name, whose):
        """Takes the cell of a variable of the running function, if it holds one; a tree is used by this."""
        cell = self.frames[-1].cells.pop(name, None)
        if cell is None:
            return
        if self.ground[whose].kind(name) == "own":
            self.use(cell, "", "full")
        cell.is_gone = True

    def lent(self, name, part, kind):
        """The cell of a reference of this kind that a part of a held variable is lent to."""
        cell = self.frames[-1].cells[name]
        self.use(cell, part, kind)
        return self.new_reference(cell.root, _place(cell, part), kind)

    def moved(self, name, kind):
        """The cell of what gets all that a held variable of this kind holds."""
        cells = self.frames[-1].cells
        cell = cells[name]
        self.use(cell, "", "look" if kind == "look" else "full")
        if kind != "look":
            cells.pop(name)
        if kind == "own":
            return cell
        cell.is_gone = kind == "full"
        return self.new_reference(cell.root, cell.path, kind)


def _first_need(step):
    """The variable that a step which is no call needs first, or an empty string."""
    if step[0] == "put":
        return step[3]
    if step[0] in ("copy", "take", "lend", "move"):
        return step[2]
    return step[1] if step[0] in ("touch", "return") else ""


def _do_step(machine, step):
    """Does a step that is no call and no return, up to its first fault, which is returned, or None."""
    frame, word = machine.frames[-1], step[0]
    function = machine.ground[frame.whose]
    fault = machine.fault_of_need(_first_need(step))
    if fault is not None:
        return fault
    if word == "put":
        machine.empty(step[3], frame.whose)
        fault = machine.fault_of_need(step[1])
        if fault is not None:
            return fault
        machine.use(frame.cells[step[1]], step[2], "full")
    elif word == "new":
        machine.fill(step[1], machine.new_tree())
    elif word in ("copy", "take"):
        machine.use(frame.cells[step[2]], step[3], "look" if word == "copy" else "full")
        machine.fill(step[1], machine.new_tree())
    elif word == "lend":
        machine.fill(step[1], machine.lent(step[2], step[3], function.kind(step[1])))
    elif word == "move":
        machine.fill(step[1], machine.moved(step[2], function.kind(step[1])))
    elif word == "touch":
        machine.use(frame.cells[step[1]], step[2], step[3])
    elif word == "drop":
        machine.empty(step[1], frame.whose)
    return None


def _do_call(machine, step, inner):
    """Passes the arguments of a call and begins the called walk, or returns the first fault."""
    parameters = machine.ground[step[2]].parameters
    cells = {}
    for argument, (parameter, kind) in zip(step[3], parameters):
        fault = machine.fault_of_need(argument[1])
        if fault is not None:
            return fault
        if argument[0] == "lend":
            cells[parameter] = machine.lent(argument[1], argument[2], kind)
        else:
            cells[parameter] = machine.moved(argument[1], kind)
    for index, (parameter, _) in enumerate(parameters):
        if cells[parameter].is_ended:
            return ("argument", index)
    machine.frames.append(Frame(step[2], inner, cells))
    return None


def _do_return(machine, step):
    """Ends the running function and gives its result to the one that waits for it, or returns the first fault."""
    frame = machine.frames[-1]
    function = machine.ground[frame.whose]
    fault = machine.fault_of_need(_first_need(step))
    if fault is not None:
        return fault
    for name, cell in frame.cells.items():
        if function.kind(name) == "own":
            machine.use(cell, "", "full")
    result = frame.cells.pop(step[1], None)
    if result is not None and result.is_ended:
        return ("result", step[1])
    if len(machine.frames) == 1:
        return None
    for cell in frame.cells.values():
        cell.is_gone = True
    machine.frames.pop()
    caller = machine.frames[-1]
    line, _ = machine.ways[caller.at][caller.position - 1]
    call, _ = machine.ground[caller.whose][line]
    if result is not None:
        machine.fill(call[1], result)
    return None


def _seen(machine):
    """The held variables of the first function with their places and ages, its ended references, and the roots."""
    cells = machine.frames[0].cells
    held = {name: ((cells[name].root, cells[name].path), cells[name].since) for name in sorted(list(cells))}
    return (held, tuple([name for name in held if cells[name].is_ended]), machine.many_roots)


def _go_through(program, lines):
    """The first fault, or None, and what is seen behind a run, or ahead of its last step if this ends it."""
    machine = Machine(program, lines)
    first, seen = machine.frames[0], None
    while first.position < len(machine.ways[first.at]) or len(machine.frames) > 1:
        frame = machine.frames[-1]
        if len(machine.frames) == 1:
            seen = _seen(machine)
        line, inner = machine.ways[frame.at][frame.position]
        step, _ = program[frame.whose][line]
        frame.position = frame.position + 1
        if step[0] == "call":
            fault = _do_call(machine, step, inner)
        elif step[0] == "return":
            fault = _do_return(machine, step)
        else:
            fault = _do_step(machine, step)
        if fault is not None or (step[0] == "return" and frame.at == first.at):
            return (fault, seen)
    return (None, _seen(machine))


class Places:
    """A run, gone through with places and ages; it never changes."""

    def __init__(self, program, lines):
        walk = Walk(program, lines)
        if walk.steps > MAX_UNFOLDED:
            raise TooMany(MAX_UNFOLDED)
        if not walk.is_run:
            raise InvalidOperation("there is a fault ahead of the last step, or in a called walk")
        self._walk = walk
        self._fault, seen = _go_through(program, lines)
        self._held, self._ended, self._many_roots = seen

    @property
    def program(self):
        """Its program."""
        return self._walk.program

    @property
    def lines(self):
        """The walk lines of the run."""
        return self._walk.lines

    @property
    def fault(self):
        """The first fault of the last step, or None."""
        return self._fault

    @property
    def held(self):
        """The names of the held variables at the end, ascending."""
        return tuple(list(self._held))

    @property
    def ended(self):
        """The names of the ended references at the end, ascending."""
        return self._ended

    def place(self, name):
        """The root and the path of a held variable."""
        return self._seen_of(name)[0]

    def age(self, name):
        """The age of a held variable."""
        return self._seen_of(name)[1]

    def _seen_of(self, name):
        if name not in list(self._held):
            raise UnknownName(name)
        return self._held[name]

    def meets(self, one, other):
        """Whether the places of two held variables overlap."""
        (root, path), (other_root, other_path) = self.place(one), self.place(other)
        return root == other_root and _do_meet(path, other_path)

    def __len__(self):
        return len(list(range(self._many_roots)))

    def __eq__(self, other):
        return isinstance(other, Places) and self._walk == other._walk

    def __str__(self):
        told = "no fault" if self._fault is None else " ".join(["fault", *[str(item) for item in self._fault]])
        return f"{self._walk.steps} steps, {self._many_roots} roots, {told}"
