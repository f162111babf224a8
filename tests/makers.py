"""Programs, states and walks by chance, the same in each run of the tests."""

from loanpairs.base.forms import suits_called, suits_kinds
from loanpairs.base.functions import Function, is_step
from loanpairs.base.programs import Program
from loanpairs.core.facts import faults_at, is_fact, is_outcome
from loanpairs.core.walks import Walk
from loanpairs.use.contracts import Contract

VARIABLES = "abcdefgh"
KINDS = ("full", "look", "own")


def random_head(rng, called):
    """A name, parameters, a result and variables."""
    kinds = [rng.choice(KINDS) for _ in range(rng.randint(2, 6))]
    pairs = tuple(zip(VARIABLES, kinds))
    many = rng.randint(min(1, len(pairs)), min(3, len(pairs)))
    result = rng.choice(["", *kinds])
    return called, pairs[:many], result, pairs[many:]


def random_step(rng, head, heads, fields, held):
    """A step that suits the kinds, and mostly needs held variables, or None if chance finds none."""
    kinds = dict(head[1] + head[3])
    for _ in range(80):
        step = guess_step(rng, kinds, heads, fields)
        if not is_step(step) or not suits_kinds(step, kinds, head[2]):
            continue
        if step[0] == "call":
            called = [other for other in heads if other[0] == step[2]][0]
            if not suits_called(step, kinds, called[1], called[2]):
                continue
        if rng.random() < 0.05 or all(name in held for name in needs(step)):
            return step
    return None


def needs(step):
    if step[0] == "call":
        return [argument[1] for argument in step[3]]
    if step[0] == "put":
        return [step[3], step[1]]
    if step[0] in ("copy", "take", "lend", "move"):
        return [step[2]]
    return [step[1]] if step[0] in ("touch", "return") else []


def held_behind(step, kinds, held):
    """The variables that are held behind a step, if it is the only one ahead of the next one."""
    held = set(held)
    if step[0] == "drop":
        held.discard(step[1])
    if step[0] in ("new", "copy", "take", "lend", "move") or (step[0] == "call" and step[1]):
        held.add(step[1])
    if step[0] == "put":
        held.discard(step[3])
    moved = [argument[1] for argument in step[3] if argument[0] == "move"] if step[0] == "call" else []
    moved += [step[2]] if step[0] == "move" else []
    return held - {name for name in moved if kinds[name] != "look" and not (step[0] == "call" and name == step[1])}


def guess_step(rng, kinds, heads, fields):
    def name(*wanted):
        return rng.choice([name for name in kinds if kinds[name] in (wanted or KINDS)] or list(kinds))

    def part():
        return rng.choice(["", *fields])

    word = rng.choice(["new", "copy", "take", "put", "lend", "lend", "lend", "lend", "lend", "lend", "move", "touch",
                       "touch", "touch", "touch", "drop", "call", "call", "call", "skip"])
    if word in ("new", "drop"):
        return (word, name())
    if word in ("copy", "take", "lend"):
        return (word, name(), name(), part())
    if word == "put":
        return (word, name(), part(), name())
    if word == "move":
        return (word, name(), name())
    if word == "touch":
        return (word, name(), part(), rng.choice(["full", "look"]))
    if word == "call":
        called = rng.choice(heads)
        given = []
        for _, kind in called[1]:
            lends = {"full": ("full", "own"), "look": KINDS, "own": ()}[kind]
            is_moved = kind == "own" or rng.random() < 0.3
            given.append(("move", name(kind)) if is_moved else ("lend", name(*lends), part()))
        return (word, "" if called[2] == "" else name(called[2]), called[0], tuple(given))
    return ("skip",)


def random_function(rng, head, heads, fields, longest):
    kinds = dict(head[1] + head[3])
    held = {name for name, _ in head[1]}
    many = rng.randint(2, longest)
    lines = []
    for index in range(many):
        givers = [name for name in kinds if kinds[name] == head[2]]
        givers = [name for name in givers if name in held] or givers
        step = None
        if index < many - 1 and rng.random() < 0.9:
            step = random_step(rng, head, heads, fields, held)
        if step is None and (head[2] == "" or givers):
            lines.append((("return", rng.choice(givers) if head[2] else ""), ()))
            continue
        held = held_behind(step or ("skip",), kinds, held)
        nexts = [min(index + 1, many - 1)]
        if rng.random() < 0.3:
            nexts.append(rng.randrange(many))
        if rng.random() < 0.1:
            nexts = [rng.randrange(many)]
        lines.append((step or ("skip",), tuple(sorted(set(nexts)))))
    return Function(head[0], head[1], head[2], head[3], tuple(lines))


def random_program(rng, functions=3, longest=8, fields=("f", "g")):
    heads = [random_head(rng, called) for called in "uvwxyz"[:functions]]
    return Program(fields, tuple(random_function(rng, head, heads, fields, longest) for head in heads))


def facts_of(told, name):
    """All facts of a function."""
    function = told[name]
    parts = ("", *told.fields)
    found = [(word, x) for word in ("empty", "held", "ended") for x in function.names]
    found += [(word, x, y, part) for word in ("into", "from") for x in function.names for y in function.names
              for part in parts]
    return [fact for fact in found if is_fact(told, name, fact)]


def outcomes_of(told, name):
    """All that can be outcomes of a function."""
    found = [("return",), ("own",)]
    found += [("from", x, part) for x in told[name].names for part in ("", *told.fields)]
    return [outcome for outcome in found if is_outcome(told, name, outcome)]


def random_state(rng, told, name):
    facts = facts_of(told, name)
    return tuple(sorted(rng.sample(facts, rng.randint(0, min(len(facts), 12)))))


def random_walk(rng, told, name, most=12, deep=2, without_faults=False, returns=()):
    """A walk by chance, perhaps without faults ahead of its last step; returns are walks that can be called."""
    walk = Walk.begin(told, name)
    for _ in range(rng.randint(1, most)):
        if walk.nexts == () or (without_faults and walk.faults):
            break
        index = rng.choice(walk.nexts)
        step = told[name][index][0]
        inner = None
        if step[0] == "call":
            inner = random_inner(rng, told, step[2], deep, without_faults, returns)
            faulty = faults_at(told, name, index, walk.states[-1])
            if inner is None and not faulty:
                break
            if faulty and rng.random() < 0.5:
                inner = None
        walk = walk.longer(index, inner)
    return walk


def random_inner(rng, told, name, deep, without_faults, returns):
    known = [walk for walk in returns if walk.name == name and not (without_faults and is_faulty(walk))]
    if known and rng.random() < 0.7:
        return rng.choice(known)
    if deep == 0:
        return None
    for _ in range(6):
        walk = random_walk(rng, told, name, 10, deep - 1, without_faults, returns)
        if walk.outcome is not None and not (without_faults and is_faulty(walk)):
            return walk
    return None


def is_faulty(walk):
    """Whether the walk itself, or one that it calls, has a fault."""
    inner = [walk.inner(at) for at, (_, called) in enumerate(walk.way) if called is not None]
    return bool(walk.faults) or any(is_faulty(called) for called in inner)


def returning_walks(rng, told):
    """Walks by chance that return with an outcome and have no fault, some calling other ones."""
    found = []
    for _ in range(3):
        for name in told.names:
            walk = random_walk(rng, told, name, 12, 0, True, found)
            if walk.outcome is not None and not is_faulty(walk):
                found.append(walk)
    return found


def allowed(fields, kinds, result):
    """All outcomes that the kinds of a contract allow."""
    if result in ("", "own"):
        return [("own",) if result else ("return",)]
    lends = ("full",) if result == "full" else ("full", "look")
    return [("from", at, part) for at, kind in enumerate(kinds) if kind in lends for part in ("", *fields)]


def all_contracts(fields, kinds, result):
    """The contracts with each set of outcomes."""
    outcomes = allowed(fields, kinds, result)
    for many in range(2 ** len(outcomes)):
        yield Contract(fields, kinds, result, tuple(x for at, x in enumerate(outcomes) if many >> at & 1))


def random_contract(rng, fields, kinds, result):
    outcomes = allowed(fields, kinds, result)
    return Contract(fields, kinds, result, tuple(rng.sample(outcomes, rng.randint(0, len(outcomes)))))


def closed_by_words(contract):
    """The closed form, outcome by outcome as the document says what is had."""
    found = set(contract.outcomes)
    for outcome in allowed(contract.fields, contract.kinds, contract.result):
        if outcome[0] == "from":
            parts = {part for _, at, part in contract.outcomes if at == outcome[1]}
            if outcome[2] == "" and parts >= set(contract.fields):
                found.add(outcome)
            if len(contract.fields) == 1 and parts:
                found.add(outcome)
    return tuple(sorted(found))
