"""Choosing: the programs of a program with choices and marks, and edits."""

from eacharm.conditions import both, but_not, holds, no, switch_condition
from eacharm.errors import NoPlace
from eacharm.trees import all_nodes, is_node, node_at, node_sorts, numbered_from, placed_nodes

CHOICES = ("choose", "when")
EDITED = ("expression", "declaration")


def chosen(program, setting):
    """The program of a setting: no choice is left."""
    return partly(program, [(name, name in setting) for name in switches_in(program)])


def partly(program, pairs):
    """The program with the choices of some switches decided, (switch, on) each."""
    return _decided(program, {name: on for name, on in pairs})


def kept_only(program, marks):
    """The program with the listed marks kept and the others made holes."""
    if not isinstance(program, tuple):
        return program
    if is_node(program) and program[0] == "mark":
        if program[2] in marks:
            return kept_only(program[3], marks)
        return ("hole", program[1])
    parts = []
    for part in program:
        parts.append(kept_only(part, marks))
    return tuple(parts)


def switches_in(program):
    """The switches of all choices, each once, ascending."""
    return tuple(sorted({node[2] for node in all_nodes(program) if node[0] in CHOICES}))


def marks_in(program):
    """The numbers of all marks, ascending."""
    return tuple(sorted({node[2] for node in all_nodes(program) if node[0] == "mark"}))


def node_conditions(program):
    """The condition that the place of a node is chosen, for each number."""
    conditions = {}
    work = [(program, True)]
    while work:
        node, condition = work.pop()
        conditions[node[1]] = condition
        for at, inner in placed_nodes(node):
            work.append((inner, _inner_condition(node, at, condition)))
    return conditions


def same_choice(program, setting):
    """The condition of all settings that choose the same tree."""
    conditions = node_conditions(program)
    same = True
    # Numbers are unlike, so trees are the same just where their nodes are.
    for node in all_nodes(program):
        if node[0] not in CHOICES:
            there = conditions[node[1]]
            same = both(same, there if holds(there, setting) else no(there))
    return same


def put_at(program, number, switch, new):
    """The program with an edit laid over the node with the number."""
    sort = edited_sort(program, number)
    nodes = {node[1]: node for node in all_nodes(program)}
    over = {_under(node): node[1] for node in list(nodes.values()) if _is_edit(node)}
    while number in over:
        number = over[number]
    free = max(nodes) + 1
    fresh = numbered_from(tuple(new), free + 1)
    old = nodes[number]
    if sort == "expression":
        return _replaced(program, number, ("choose", free, switch, fresh, old))
    return _replaced(program, number, ("when", free, switch, fresh, (old,)))


def edited_sort(program, number):
    """The sort of a node that an edit can be laid over; raises NoPlace for any other number."""
    sort = node_sorts(program).get(number)
    if sort not in EDITED or _is_edit(node_at(program, number)):
        raise NoPlace(number)
    return sort


def _decided(thing, states):
    """A part of a tree with the choices of these switches decided."""
    if not isinstance(thing, tuple):
        return thing
    if is_node(thing) and thing[0] == "choose" and thing[2] in states:
        return _decided(thing[3] if states[thing[2]] else thing[4], states)
    parts = []
    for part in thing:
        if is_node(part) and part[0] == "when" and part[2] in states:
            parts.extend(_decided(part[3] if states[part[2]] else part[4], states))
        else:
            parts.append(_decided(part, states))
    return tuple(parts)


def _inner_condition(node, at, condition):
    if node[0] not in CHOICES:
        return condition
    on = switch_condition(node[2])
    return both(condition, on) if at == 3 else but_not(condition, on)


def _is_edit(node):
    return node[0] in CHOICES and node[2].startswith("e")


def _under(choice):
    """The number of the node over which an edit's choice lies, None without one."""
    if choice[0] == "choose":
        return choice[4][1]
    return choice[4][0][1] if len(choice[4]) == 1 else None


def _replaced(thing, number, node):
    """A part of a tree with another node in the place of the one with the number."""
    if not isinstance(thing, tuple):
        return thing
    if is_node(thing) and thing[1] == number:
        return node
    parts = []
    for part in thing:
        parts.append(_replaced(part, number, node))
    return tuple(parts)
