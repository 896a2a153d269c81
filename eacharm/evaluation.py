"""Evaluation of expressions: the rules of the machine (13.4 to 13.6).

A rule takes a machine, a detail (mostly a node) and the names that are bound
there; it takes worths off the machine and puts worths and tasks on it. A task is
a rule with its detail and names. Worths are told values, but for a cell, which
is a pair of a word and a place among the cells, and a function, which keeps its
parameter, its expression and its names.
"""

from eacharm.choosing import chosen, switches_in
from eacharm.shapes import bindings_of

NUMBERS = ("number", "number")
NOTHING = ("record", ())


def expression_task(node, names):
    """The task of evaluating an expression."""
    return (RULES[node[0]], node, names)


def module_key(name):
    """The key of a module among the bound names; no name has a blank."""
    return "module " + name


def bound_functions(machine, node, group, names):
    """The names with those of a rec or defrec; None where the run ends or waits."""
    inner = dict(names)
    for name, side in group:
        while side[0] in ("mark", "choose"):
            side = side[3] if side[0] == "mark" else machine.side_of(side)
            if side is None:
                return None
        if side[0] == "hole":
            machine.end("hole", side[1])
            return None
        if side[0] != "fn":
            machine.end("stuck", node[1])
            return None
        inner[name] = ("fn", side[2], side[3], inner)
    return inner


def _name(machine, node, names):
    if node[2] in names:
        machine.worths.append(names[node[2]])
    else:
        machine.end("stuck", node[1])


def _member(machine, node, names):
    module = names.get(module_key(node[2]), {})
    if node[3] in module:
        machine.worths.append(module[node[3]])
    else:
        machine.end("stuck", node[1])


def _plain(machine, node, names):
    machine.worths.append((node[0], node[2]))


def _hole(machine, node, names):
    machine.end("hole", node[1])


def _fn(machine, node, names):
    machine.worths.append(("fn", node[2], node[3], names))


def _one(machine, node, names):
    """Asks for the one part, which stands last, and then for what it comes to."""
    part = node[-1]
    machine.tasks.append((THEN[node[0]], node, names))
    machine.tasks.append((RULES[part[0]], part, names))


def _two(machine, node, names):
    """Asks for the two parts, which stand last, and then for what they come to."""
    first, second = node[-2:]
    machine.tasks.append((THEN[node[0]], node, names))
    machine.tasks.append((RULES[second[0]], second, names))
    machine.tasks.append((RULES[first[0]], first, names))


def _many(machine, node, names):
    """Asks for the parts of a tuple or record from left to right."""
    parts = node[2] if node[0] == "tuple" else [part for _, part in node[2]]
    machine.tasks.append((THEN[node[0]], node, names))
    for part in parts[::-1]:
        machine.tasks.append((RULES[part[0]], part, names))


def _first(machine, node, names):
    """Asks for the first part; what follows rests on it."""
    part = node[3] if node[0] == "let" else node[2]
    machine.tasks.append((THEN[node[0]], node, names))
    machine.tasks.append(expression_task(part, names))


def _through(machine, node, names):
    """A mark and an `is` are their expressions."""
    part = node[3] if node[0] == "mark" else node[2]
    machine.tasks.append(expression_task(part, names))


def _choose(machine, node, names):
    side = machine.side_of(node)
    if side is None:
        machine.tasks.append((_choose, node, names))
    else:
        machine.tasks.append((RULES[side[0]], side, names))


def _rec(machine, node, names):
    inner = bound_functions(machine, node, node[2], names)
    if inner is not None:
        machine.tasks.append(expression_task(node[3], inner))
    elif machine.waiting is not None:
        machine.tasks.append((_rec, node, names))


def _then_app(machine, node, names):
    argument = machine.worths.pop()
    function = machine.worths.pop()
    if function[0] != "fn":
        machine.end("stuck", node[1])
    elif machine.calls == machine.fuel:
        machine.end("fuel", None)
    else:
        machine.calls += 1
        _, name, body, inner = function
        machine.tasks.append(expression_task(body, {**inner, name: argument}))


def _then_let(machine, node, names):
    inner = {**names, node[2]: machine.worths.pop()}
    machine.tasks.append(expression_task(node[4], inner))


def _then_if(machine, node, names):
    test = machine.worths.pop()
    if test[0] != "truth":
        machine.end("stuck", node[1])
    else:
        side = node[3] if test[1] else node[4]
        machine.tasks.append(expression_task(side, names))


def _then_op(machine, node, names):
    right = machine.worths.pop()
    left = machine.worths.pop()
    if (left[0], right[0]) != NUMBERS:
        machine.end("stuck", node[1])
    elif node[2] == "+":
        machine.worths.append(("number", left[1] + right[1]))
    elif node[2] == "-":
        machine.worths.append(("number", left[1] - right[1]))
    elif node[2] == "<":
        machine.worths.append(("truth", left[1] < right[1]))
    else:
        machine.worths.append(("truth", left[1] == right[1]))


def _then_tuple(machine, node, names):
    machine.worths.append(("tuple", _taken(machine, len(node[2]))))


def _then_record(machine, node, names):
    worths = _taken(machine, len(node[2]))
    fields = {}
    for (label, _), worth in zip(node[2], worths):
        fields[label] = worth
    if len(fields) < len(worths):
        machine.end("stuck", node[1])
    else:
        machine.worths.append(_record_of(fields))


def _then_get(machine, node, names):
    fields = _fields_of(machine.worths.pop())
    if node[2] in fields:
        machine.worths.append(fields[node[2]])
    else:
        machine.end("stuck", node[1])


def _then_extend(machine, node, names):
    record = machine.worths.pop()
    field = machine.worths.pop()
    fields = _fields_of(record)
    if record[0] != "record" or node[2] in fields:
        machine.end("stuck", node[1])
    else:
        machine.worths.append(_record_of({**fields, node[2]: field}))


def _then_update(machine, node, names):
    fields = _fields_of(machine.worths.pop())
    field = machine.worths.pop()
    if node[2] in fields:
        machine.worths.append(_record_of({**fields, node[2]: field}))
    else:
        machine.end("stuck", node[1])


def _then_without(machine, node, names):
    fields = _fields_of(machine.worths.pop())
    if node[2] in fields:
        del fields[node[2]]
        machine.worths.append(_record_of(fields))
    else:
        machine.end("stuck", node[1])


def _then_labelled(machine, node, names):
    """A tag or a make."""
    machine.worths.append((node[0], node[2], machine.worths.pop()))


def _then_case(machine, node, names):
    asked = machine.worths.pop()
    if asked[0] != "tag":
        machine.end("stuck", node[1])
        return
    for label, name, side in node[3]:
        if label == asked[1]:
            machine.tasks.append(expression_task(side, {**names, name: asked[2]}))
            return
    if node[4] is None:
        machine.end("stuck", node[1])
    else:
        name, side = node[4]
        machine.tasks.append(expression_task(side, {**names, name: asked}))


def _then_match(machine, node, names):
    """Goes through the arms; where a choice is not decided, the task stays as it was."""
    asked = machine.worths[-1]
    rows = list(node[3])[::-1]
    while rows:
        row = rows.pop()
        part = machine.side_of(row) if row[0] == "when" else _pattern_of(machine, row)
        if part is None:
            machine.tasks.append((_then_match, node, names))
            return
        if row[0] == "when":
            rows.extend(part[::-1])
            continue
        bound = bindings_of(part, asked)
        if bound is not None:
            machine.worths.pop()
            machine.tasks.append(expression_task(row[3], _with_bound(names, bound)))
            return
    machine.end("stuck", node[1])


def _then_cell(machine, node, names):
    machine.cells.append(machine.worths.pop())
    machine.worths.append(("cell", len(machine.cells) - 1))


def _then_read(machine, node, names):
    cell = machine.worths.pop()
    if cell[0] == "cell":
        machine.worths.append(machine.cells[cell[1]])
    else:
        machine.end("stuck", node[1])


def _then_write(machine, node, names):
    content = machine.worths.pop()
    cell = machine.worths.pop()
    if cell[0] == "cell":
        machine.cells[cell[1]] = content
        machine.worths.append(NOTHING)
    else:
        machine.end("stuck", node[1])


def _pattern_of(machine, arm):
    """The pattern of an arm without choices, or None where one is not decided."""
    if arm[1] not in machine.patterns:
        for switch in switches_in(arm[2]):
            if machine.state_of(switch) is None:
                return None
        on = [switch for switch in machine.states if machine.states[switch]]
        machine.patterns[arm[1]] = chosen(arm[2], on)
    return machine.patterns[arm[1]]


def _with_bound(names, bound):
    """The names with those of pairs; of one name the last pair counts."""
    inner = dict(names)
    for name, worth in bound:
        inner[name] = worth
    return inner


def _taken(machine, many):
    """Takes the last worths off the machine, in the order in which they came."""
    first = len(machine.worths) - many
    worths = tuple(machine.worths[first:])
    del machine.worths[first:]
    return worths


def _fields_of(worth):
    """The fields of a record, a new dict; an empty one for anything else."""
    return dict(worth[1]) if worth[0] == "record" else {}


def _record_of(fields):
    return ("record", tuple([(label, fields[label]) for label in sorted(fields)]))


RULES = {
    "name": _name,
    "member": _member,
    "number": _plain,
    "truth": _plain,
    "hole": _hole,
    "fn": _fn,
    "app": _two,
    "op": _two,
    "tuple": _many,
    "record": _many,
    "get": _one,
    "extend": _two,
    "update": _two,
    "without": _one,
    "tag": _one,
    "make": _one,
    "cell": _one,
    "read": _one,
    "write": _two,
    "let": _first,
    "if": _first,
    "case": _first,
    "match": _first,
    "is": _through,
    "mark": _through,
    "choose": _choose,
    "rec": _rec,
}

# What is done when the parts of an expression have been evaluated.
THEN = {
    "app": _then_app,
    "let": _then_let,
    "if": _then_if,
    "op": _then_op,
    "tuple": _then_tuple,
    "record": _then_record,
    "get": _then_get,
    "extend": _then_extend,
    "update": _then_update,
    "without": _then_without,
    "tag": _then_labelled,
    "make": _then_labelled,
    "case": _then_case,
    "match": _then_match,
    "cell": _then_cell,
    "read": _then_read,
    "write": _then_write,
}
