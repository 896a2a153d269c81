"""Names of declarations, signatures, modules and functors, under masks (Part 4)."""

from eacharm.filling import finite_mask, note_filled
from eacharm.naming import Names, has_twice, name_expression, name_functions, name_written
from eacharm.scopes import Functor, Scope, Target, View


def names_of(program):
    """The names of a whole program."""
    names = Names(program)
    whole = names.masks.whole
    name_declarations(names, program[2], whole, names.top)
    name_expression(names, program[3], whole, names.top)
    return names


def name_declarations(names, rows, mask, scope):
    """Walks through declarations, which the scope knows from then on."""
    for row in rows:
        if row[0] == "when":
            for side, part in names.sides(row, mask):
                name_declarations(names, side, part, scope)
        else:
            action = RULES[row[0]]
            action(names, row, mask, scope)


def _declare(names, node, space, name, mask, scope):
    names.fault(node[1], "twice", scope.declare(space, name, mask))


def _def(names, node, mask, scope):
    name_expression(names, node[3], mask, scope)
    _declare(names, node, "value", node[2], mask, scope)
    scope.enter("value", node[2], mask, Target(node[1], "defined", node[2]))


def _defrec(names, node, mask, scope):
    name_functions(names, node, mask, scope, node[2])
    for name, _ in node[2]:
        _declare(names, node, "value", name, mask, scope)
        scope.enter("value", name, mask, Target(node[1], "defined", name))


def _alias(names, node, mask, scope):
    name_written(names, node[3], mask, scope)
    _declare(names, node, "types", node[2], mask, scope)
    scope.enter("types", node[2], mask, Target(node[1], "alias", node[2]))


def _data(names, node, mask, scope):
    if has_twice(node[3]):
        names.fault(node[1], "twice", mask)
    _declare(names, node, "data", node[2], mask, scope)
    scope.enter("data", node[2], mask, Target(node[1], "data", node[2], node))
    inner = Scope(scope)
    for letter in node[3]:
        inner.enter("types", letter, mask, Target(node[1], "letter", letter))
    makers = []
    _makers(names, node[4], mask, inner, makers)
    for part, maker in makers:
        _declare(names, maker, "maker", maker[2], part, scope)
        scope.enter("maker", maker[2], part, Target(maker[1], "maker", maker[2], (node, maker)))
    note_filled(names, node, makers)
    names.fault(node[1], "endless", mask & ~finite_mask(names, node))


def _makers(names, rows, mask, scope, found):
    """Walks through makers; adds the pairs (mask, maker)."""
    for row in rows:
        if row[0] == "when":
            for side, part in names.sides(row, mask):
                _makers(names, side, part, scope, found)
        else:
            name_written(names, row[3], mask, scope)
            found.append((mask, row))


def _sig(names, node, mask, scope):
    shown = Scope(scope)
    _items(names, node[3], mask, shown)
    _declare(names, node, "sig", node[2], mask, scope)
    scope.enter("sig", node[2], mask, shown)


def _items(names, rows, mask, shown):
    """Walks through items; the scope's own names are what they show."""
    for row in rows:
        if row[0] == "when":
            for side, part in names.sides(row, mask):
                _items(names, side, part, shown)
        elif row[0] == "hide":
            _declare(names, row, "types", row[2], mask, shown)
            shown.enter("types", row[2], mask, Target(row[1], "hide", row[2]))
        else:
            _val(names, row, mask, shown)


def _val(names, node, mask, shown):
    if has_twice(node[3]):
        names.fault(node[1], "twice", mask)
    inner = Scope(shown)
    for letter in node[3]:
        inner.enter("types", letter, mask, Target(node[1], "letter", letter))
    name_written(names, node[4], mask, inner)
    _declare(names, node, "value", node[2], mask, shown)
    shown.enter("value", node[2], mask, Target(node[1], "val", node[2], node))


def _functor(names, node, mask, scope):
    _, number, name, parameter, sig, rows, result = node
    asked, rest = scope.pieces("sig", sig, mask)
    names.fault(number, "unknown", rest)
    _declare(names, node, "functor", name, mask, scope)
    _declare(names, node, "module", parameter, mask, scope)
    around = Scope(scope)
    for part, shown in asked:
        around.enter("module", parameter, part, View("parameter", parameter, shown))
    if rest:
        around.enter("module", parameter, rest, View("every", parameter, None))
    inner = Scope(around)
    name_declarations(names, rows, mask, inner)
    told = Scope(around)
    _items(names, result, mask, told)
    _meet(names, number, mask, told, View("struct", name, inner))
    scope.enter("functor", name, mask, Functor(told, asked))


def _module(names, node, mask, scope):
    _, number, name, body, seal = node
    views = _body_views(names, body, mask, scope, name)
    _declare(names, node, "module", name, mask, scope)
    if seal is None:
        for part, view in views:
            scope.enter("module", name, part, view)
        return
    sigs, rest = scope.pieces("sig", seal, mask)
    names.fault(number, "unknown", rest)
    for part, shown in sigs:
        for place, view in views:
            _meet(names, number, part & place, shown, view)
        scope.enter("module", name, part, View("sealed", name, shown))
    if rest:
        scope.enter("module", name, rest, View("every", name, None))


def _body_views(names, body, mask, scope, name):
    """What the body of a module shows, before a seal: pairs (mask, view)."""
    if body[0] == "choose":
        found = []
        for side, part in names.sides(body, mask):
            found.extend(_body_views(names, side, part, scope, name))
        return found
    if body[0] == "struct":
        inner = Scope(scope)
        name_declarations(names, body[2], mask, inner)
        return [(mask, View("struct", name, inner))]
    return _applied_views(names, body, mask, scope, name)


def _applied_views(names, body, mask, scope, name):
    functors, strange = scope.pieces("functor", body[2], mask)
    modules, rest = scope.pieces("module", body[3], mask)
    names.fault(body[1], "unknown", strange | rest)
    found = []
    if strange:
        found.append((strange, View("every", name, None)))
    for part, functor in functors:
        for place, argument in modules:
            for inner, shown in functor.asked:
                _meet(names, body[1], part & place & inner, shown, argument)
            if part & place:
                found.append((part & place, View("applied", name, functor.result, argument)))
        if part & rest:
            found.append((part & rest, View("applied", name, functor.result)))
    return found


def _meet(names, number, mask, asked, view):
    """Notes that a module must meet items, and where it lacks one of them."""
    if not mask:
        return
    names.meetings.setdefault(number, []).append((mask, asked, view))
    for space, name in asked.entries:
        wanted, _ = asked.own_pieces(space, name, mask)
        for part, _ in wanted:
            _, lacked = view.pieces(space, name, part)
            names.fault(number, "missing", lacked)


RULES = {
    "def": _def,
    "defrec": _defrec,
    "alias": _alias,
    "data": _data,
    "sig": _sig,
    "module": _module,
    "functor": _functor,
}
