"""The actions that steps consist of, and what they do to facts.

A plan of a step is a pair: the kinds of all variables, and a list of groups of actions. The facts that a
reference gets in a group are made from those ahead of this group. An action is a tuple that begins with

- "need", "use" (a variable, a part, a way), "empty";
- "hold" (an owner gets a tree), "lend" and "move" (a reference gets a loan, or what another one holds);
- "argument" (an index), "result" (a variable): what can be wrong about arguments and returned references;
- "forget": the nameless variables of a call go.

The nameless variables are called "0", "1" and "2", as no variable is. Facts are lists, in any order.
"""

NAMELESS = ("0", "1", "2")


def plan_of(ground, name, index, outcome):
    """The plan of a step; for a call without an outcome the result is not filled if it is a reference.

    ground gives functions for names: it is a program or a dict.
    """
    function = ground[name]
    step, _ = function[index]
    kinds = {variable: function.kind(variable) for variable in function.names}
    if step[0] == "call":
        parameters = ground[step[2]].parameters
        for nameless, (_, kind) in zip(NAMELESS, parameters):
            kinds[nameless] = kind
        return (kinds, _call_groups(step, kinds, parameters, outcome))
    return (kinds, [_plain_actions(step, kinds)])


def _call_groups(step, kinds, parameters, outcome):
    groups, checks = [], []
    for index, argument in enumerate(step[3]):
        nameless = NAMELESS[index]
        if argument[0] == "lend":
            groups.append(_lend_actions(nameless, argument[1], argument[2], kinds[nameless]))
        else:
            groups.append(_move_actions(nameless, argument[1], kinds[nameless]))
        checks.append(("argument", index))
    return [*groups, checks, _result_actions(step[1], kinds, parameters, outcome)]


def _result_actions(target, kinds, parameters, outcome):
    """How the result of a call is filled, and what is left of its arguments."""
    if target != "" and kinds[target] == "own":
        return [("use", target, "", "full"), ("hold", target), ("forget",)]
    if target == "" or outcome is None:
        return [("forget",)]
    wanted = [nameless for nameless, (name, _) in zip(NAMELESS, parameters) if name == outcome[1]]
    return [("lend", target, wanted[0], outcome[2]), ("forget",)]


def _plain_actions(step, kinds):
    """The actions of a step that is no call."""
    word = step[0]
    if word == "new":
        return [("use", step[1], "", "full"), ("hold", step[1])]
    if word in ("copy", "take"):
        way = "look" if word == "copy" else "full"
        used = [("need", step[2]), ("use", step[2], step[3], way)]
        return used + [("use", step[1], "", "full"), ("hold", step[1])]
    if word == "put":
        moved = [("need", step[3]), ("use", step[3], "", "full"), ("empty", step[3])]
        return moved + [("need", step[1]), ("use", step[1], step[2], "full")]
    if word == "lend":
        return _lend_actions(step[1], step[2], step[3], kinds[step[1]])
    if word == "move":
        return _move_actions(step[1], step[2], kinds[step[1]])
    if word == "touch":
        return [("need", step[1]), ("use", step[1], step[2], step[3])]
    if word == "drop":
        used = [("use", step[1], "", "full")] if kinds[step[1]] == "own" else []
        return used + [("empty", step[1])]
    if word == "return" and step[1] != "":
        return [("need", step[1]), ("result", step[1])]
    return []


def _lend_actions(target, source, part, kind):
    return [("need", source), ("use", source, part, kind), ("lend", target, source, part)]


def _move_actions(target, source, kind):
    if kind == "own":
        return [
            ("need", source), ("use", source, "", "full"),
            ("use", target, "", "full"), ("hold", target), ("empty", source),
        ]
    moved = [("need", source), ("use", source, "", kind), ("move", target, source)]
    return moved if kind == "look" else moved + [("empty", source)]


def go_through(plan, facts):
    """The pair of the faults, in order and each once, and the facts behind, in any order."""
    kinds, groups = plan
    faults = []
    for group in groups:
        ahead = facts
        for action in group:
            fault = _fault_of(action, kinds, facts)
            faults = faults + [found for found in fault if found not in faults]
            facts = _behind(action, kinds, ahead, facts)
    return (faults, facts)


def _fault_of(action, kinds, facts):
    """The list of the faults of an action."""
    word = action[0]
    if word == "need":
        return [fault for fault in (("empty", action[1]), ("ended", action[1])) if fault in facts]
    if word == "argument":
        return [action] if ("ended", NAMELESS[action[1]]) in facts else []
    if word == "result":
        into = [fact for fact in facts if fact[0] == "into" and fact[1] == action[1]]
        return [action] if any([kinds[fact[2]] == "own" for fact in into]) else []
    return []


def _behind(action, kinds, ahead, facts):
    """The facts behind an action; those ahead of its group are given, too."""
    word = action[0]
    if word == "use":
        ended = _ended_by(action, kinds, facts)
        return facts if ended == [] else facts + [fact for fact in ended if fact not in facts]
    if word == "empty":
        return _without(facts, action[1]) + [("empty", action[1])]
    if word == "hold":
        return _without(facts, action[1]) + [("held", action[1])]
    if word == "lend":
        made = _loan_facts(ahead, action[1], action[2], action[3])
        return _without(facts, action[1]) + [("held", action[1])] + made
    if word == "move":
        made = _moved_facts(ahead, action[1], action[2])
        return _without(facts, action[1]) + [("held", action[1])] + made
    if word == "forget":
        return [fact for fact in facts if not _is_nameless(fact)]
    return facts


def _ended_by(action, kinds, facts):
    """The facts that references are ended by a use."""
    _, used, part, way = action
    reaching = [
        fact[1] for fact in facts
        if fact[0] == "into" and fact[2] == used and (part in ("", fact[3]) or fact[3] == "")
    ]
    return [("ended", name) for name in reaching if way == "full" or kinds[name] == "full"]


def _without(facts, name):
    """The facts that are not about a variable, and not about what reaches into it."""
    return [fact for fact in facts if fact[1] != name and (fact[0] != "into" or fact[2] != name)]


def _is_nameless(fact):
    return fact[1] in NAMELESS or (fact[0] == "into" and fact[2] in NAMELESS)


def _loan_facts(ahead, target, source, part):
    made = [("into", target, source, part)]
    for fact in ahead:
        if fact[1] == source and fact[0] in ("into", "from"):
            made.append((fact[0], target, fact[2], part if fact[3] == "" else fact[3]))
    return _without_loops(made, target)


def _moved_facts(ahead, target, source):
    made = [
        (fact[0], target, fact[2], fact[3]) for fact in ahead
        if fact[1] == source and fact[0] in ("into", "from")
    ]
    return _without_loops(made, target)


def _without_loops(made, target):
    """The made facts without those by which a variable would reach into itself, each once."""
    plain = []
    for fact in made:
        if fact not in plain and (fact[0] != "into" or fact[2] != target):
            plain.append(fact)
    return plain


def outcomes_of_return(ground, name, index, facts):
    """The list of the outcomes that a return has by these facts; other steps have none."""
    function = ground[name]
    step, _ = function[index]
    if step[0] != "return":
        return []
    if step[1] == "":
        return [("return",)]
    if function.result == "own":
        return [("own",)]
    return [("from", fact[2], fact[3]) for fact in facts if fact[0] == "from" and fact[1] == step[1]]


def facts_behind(plan, facts):
    """The facts behind a step, ascending."""
    _, behind = go_through(plan, facts)
    return tuple(sorted(set(behind)))
