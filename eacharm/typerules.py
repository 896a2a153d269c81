"""The types of expressions and patterns (8.2 to 8.5), under conditions.

A rule takes the typer, the node, the condition of its place and the types of
the names that are held there, and gives the type of the node.
"""

from eacharm.conditions import both
from eacharm.writtentypes import Key, data_term, fields_of, told_value, written_term

INT = ("int",)
BOOL = ("bool",)
NOTHING = ("record", (), None)


def expression_type(typer, node, condition, held):
    """The type of an expression."""
    rule = RULES[node[0]]
    term = rule(typer, node, condition, held)
    typer.told[node[1]] = term
    return term


def plain_written(typer, node, condition):
    """The term of a written type with no letters of a data or val around it."""
    return written_term(typer, node, condition, Key({}))


def function_types(typer, node, condition, held, group):
    """Types the functions of a rec or defrec, which are held in all right sides."""
    for name, _ in group:
        typer.slots[(node[1], name)] = typer.letter()
    own = [typer.slots[(node[1], name)] for name, _ in group]
    inner = (*held, *own)
    for name, side in group:
        term = expression_type(typer, side, condition, inner)
        typer.store.unify(condition, typer.slots[(node[1], name)], term)
    for name, _ in group:
        typer.define(node[1], name, condition, typer.slots[(node[1], name)], held)


def _name(typer, node, condition, held):
    ways = []
    for part, target, _ in typer.meanings(node[1], condition):
        if target.word == "held":
            term, fresh = typer.slots[target.name], {}
        else:
            term, fresh = typer.instance(part, target.number, target.name)
        typer.used[node[1]] = fresh
        ways.append((part, term))
    return typer.joined(ways)


def _member(typer, node, condition, held):
    ways = []
    for part, target, view in typer.meanings(node[1], condition):
        term, fresh = told_value(typer, view, target, part)
        typer.used[node[1]] = fresh
        ways.append((part, term))
    return typer.joined(ways)


def _number(typer, node, condition, held):
    return INT


def _truth(typer, node, condition, held):
    return BOOL


def _hole(typer, node, condition, held):
    return typer.letter()


def _fn(typer, node, condition, held):
    name = typer.letter()
    typer.slots[(node[1], "in")] = name
    return ("arrow", name, expression_type(typer, node[3], condition, (*held, name)))


def _app(typer, node, condition, held):
    function = expression_type(typer, node[2], condition, held)
    argument = expression_type(typer, node[3], condition, held)
    whole = typer.letter()
    typer.store.unify(condition, function, ("arrow", argument, whole))
    return whole


def _let(typer, node, condition, held):
    term = expression_type(typer, node[3], condition, held)
    typer.define(node[1], node[2], condition, term, held)
    return expression_type(typer, node[4], condition, held)


def _rec(typer, node, condition, held):
    function_types(typer, node, condition, held, node[2])
    return expression_type(typer, node[3], condition, held)


def _if(typer, node, condition, held):
    typer.store.unify(condition, expression_type(typer, node[2], condition, held), BOOL)
    first = expression_type(typer, node[3], condition, held)
    typer.store.unify(condition, first, expression_type(typer, node[4], condition, held))
    return first


def _op(typer, node, condition, held):
    for side in node[3:]:
        typer.store.unify(condition, expression_type(typer, side, condition, held), INT)
    return INT if node[2] in ("+", "-") else BOOL


def _tuple(typer, node, condition, held):
    return ("tuple", tuple([expression_type(typer, part, condition, held) for part in node[2]]))


def _record_rule(typer, node, condition, held):
    terms = {label: expression_type(typer, part, condition, held) for label, part in node[2]}
    return ("record", fields_of(terms), None)


def _with_field(typer, condition, label, rest):
    """A record type with a label of any type, and that type."""
    field = typer.letter()
    return ("record", ((label, field),), rest), field


def _get(typer, node, condition, held):
    record = expression_type(typer, node[3], condition, held)
    rest = typer.store.new_row(condition, (node[2],))
    wanted, field = _with_field(typer, condition, node[2], rest)
    typer.store.unify(condition, record, wanted)
    return field


def _extend(typer, node, condition, held):
    field = expression_type(typer, node[3], condition, held)
    record = expression_type(typer, node[4], condition, held)
    rest = typer.store.new_row(condition, (node[2],))
    typer.store.unify(condition, record, ("record", (), rest))
    return ("record", ((node[2], field),), rest)


def _update(typer, node, condition, held):
    field = expression_type(typer, node[3], condition, held)
    record = expression_type(typer, node[4], condition, held)
    rest = typer.store.new_row(condition, (node[2],))
    typer.store.unify(condition, record, _with_field(typer, condition, node[2], rest)[0])
    return ("record", ((node[2], field),), rest)


def _without(typer, node, condition, held):
    record = expression_type(typer, node[3], condition, held)
    rest = typer.store.new_row(condition, (node[2],))
    typer.store.unify(condition, record, _with_field(typer, condition, node[2], rest)[0])
    return ("record", (), rest)


def _tag(typer, node, condition, held):
    content = expression_type(typer, node[3], condition, held)
    return ("variant", ((node[2], content),), typer.store.new_row(condition, (node[2],)))


def _case(typer, node, condition, held):
    asked = expression_type(typer, node[2], condition, held)
    contents = {label: typer.letter() for label, _, _ in node[3]}
    rest = None
    if node[4] is not None:
        rest = typer.store.new_row(condition, list(contents))
    typer.store.unify(condition, asked, ("variant", fields_of(contents), rest))
    whole = typer.letter()
    for at, (label, _, side) in enumerate(node[3]):
        typer.slots[(node[1], at)] = contents[label]
        term = expression_type(typer, side, condition, (*held, contents[label]))
        typer.store.unify(condition, whole, term)
    if node[4] is not None:
        other = ("variant", (), rest)
        typer.slots[(node[1], "else")] = other
        term = expression_type(typer, node[4][1], condition, (*held, other))
        typer.store.unify(condition, whole, term)
    return whole


def _made(typer, node, condition, content):
    """The type of a make, an expression or a pattern."""
    ways = []
    for part, target, _ in typer.meanings(node[1], condition):
        argument, whole = data_term(typer, target, part)
        typer.store.unify(part, content, argument)
        ways.append((part, whole))
    return typer.joined(ways)


def _make(typer, node, condition, held):
    return _made(typer, node, condition, expression_type(typer, node[3], condition, held))


def _match(typer, node, condition, held):
    asked = expression_type(typer, node[2], condition, held)
    whole = typer.letter()
    _arms(typer, node[3], condition, held, (asked, whole))
    return whole


def _arms(typer, rows, condition, held, wanted):
    for row in rows:
        if row[0] == "when":
            for side, part in typer.sides(row, condition):
                _arms(typer, side, part, held, wanted)
        else:
            bound = []
            term = _pattern(typer, row[2], condition, bound)
            typer.store.unify(condition, wanted[0], term)
            side = expression_type(typer, row[3], condition, (*held, *bound))
            typer.store.unify(condition, wanted[1], side)


def _cell(typer, node, condition, held):
    content = plain_written(typer, node[2], condition)
    typer.store.unify(condition, expression_type(typer, node[3], condition, held), content)
    return ("cell", content)


def _read(typer, node, condition, held):
    content = typer.letter()
    cell = expression_type(typer, node[2], condition, held)
    typer.store.unify(condition, cell, ("cell", content))
    return content


def _write(typer, node, condition, held):
    cell = expression_type(typer, node[2], condition, held)
    content = expression_type(typer, node[3], condition, held)
    typer.store.unify(condition, cell, ("cell", content))
    return NOTHING


def _is(typer, node, condition, held):
    term = expression_type(typer, node[2], condition, held)
    typer.store.unify(condition, term, plain_written(typer, node[3], condition))
    return term


def _choose(typer, node, condition, held):
    ways = []
    for side, part in typer.sides(node, condition):
        ways.append((part, expression_type(typer, side, part, held)))
    return typer.joined(ways)


def _mark(typer, node, condition, held):
    kept = both(condition, (f"m{node[2]}", True, False))
    whole = typer.letter()
    typer.store.unify(kept, whole, expression_type(typer, node[3], kept, held))
    return whole


def _pattern(typer, node, condition, bound):
    """The type of a pattern; adds the types of its names to those that are bound."""
    word = node[0]
    if word == "any":
        term = typer.letter()
    elif word == "name":
        term = typer.letter()
        typer.slots[(node[1], "")] = term
        bound.append(term)
    elif word in ("number", "truth"):
        term = INT if word == "number" else BOOL
    elif word == "tuple":
        term = ("tuple", tuple([_pattern(typer, part, condition, bound) for part in node[2]]))
    elif word == "record":
        terms = {label: _pattern(typer, part, condition, bound) for label, part in node[2]}
        term = ("record", fields_of(terms), typer.store.new_row(condition, list(terms)))
    elif word == "make":
        content = _pattern(typer, node[3], condition, bound)
        term = _made(typer, node, condition, content)
    else:
        sides = typer.sides(node, condition)
        term = typer.joined([(part, _pattern(typer, side, part, bound)) for side, part in sides])
    typer.told[node[1]] = term
    return term


RULES = {
    "name": _name,
    "number": _number,
    "truth": _truth,
    "hole": _hole,
    "fn": _fn,
    "app": _app,
    "let": _let,
    "rec": _rec,
    "if": _if,
    "op": _op,
    "tuple": _tuple,
    "record": _record_rule,
    "get": _get,
    "extend": _extend,
    "update": _update,
    "without": _without,
    "tag": _tag,
    "case": _case,
    "make": _make,
    "match": _match,
    "cell": _cell,
    "read": _read,
    "write": _write,
    "is": _is,
    "choose": _choose,
    "mark": _mark,
    "member": _member,
}
