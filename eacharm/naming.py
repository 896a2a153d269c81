"""Names of expressions, patterns and written types, under masks (Part 4).

A walk goes through the tree once; a mask tells the settings at which a place
is chosen. Marks are looked through.
"""

from eacharm.choosing import switches_in
from eacharm.masks import Masks
from eacharm.scopes import Scope, Target
from eacharm.trees import inner_nodes


class Names:
    """What the walk finds.

    `faults` has a mask for each (number, word). `uses` has for the number of
    each use a list of (mask, target, view), where the view is that of the
    module of a member or a from. `meetings` has for the number of a module, an
    apply or a functor a list of (mask, scope of asked items, offered view).
    """

    def __init__(self, program):
        self.masks = Masks()
        for switch in switches_in(program):
            self.masks.add_switch(switch)
        self.faults = {}
        self.uses = {}
        self.meetings = {}
        self.filled = {}
        self.top = Scope(None)

    def fault(self, number, word, mask):
        """Notes a fault of a node at the settings of a mask."""
        if mask:
            self.faults[(number, word)] = self.faults.get((number, word), 0) | mask

    def sides(self, choice, mask):
        """The two branches or groups of a choice, each with its mask."""
        on = self.masks.on[choice[2]]
        pairs = ((choice[3], mask & on), (choice[4], mask & ~on))
        return [(side, part) for side, part in pairs if part]

    def modules_of_top(self):
        """The names of the modules that are declared at the top."""
        return [name for space, name in self.top.entries if space == "module"]

    def use(self, node, space, name, mask, scope):
        """Notes what a use means; returns its pieces."""
        found, rest = scope.pieces(space, name, mask)
        self.fault(node[1], "unknown", rest)
        self.uses[node[1]] = [(part, target, None) for part, target in found]
        return found

    def use_inside(self, node, space, mask, scope):
        """Notes what a member or a from means: a name of a module."""
        modules, rest = scope.pieces("module", node[2], mask)
        self.fault(node[1], "unknown", rest)
        self.uses[node[1]] = []
        for part, view in modules:
            found, rest = view.pieces(space, node[3], part)
            self.fault(node[1], "unknown", rest)
            self.uses[node[1]].extend([(place, target, view) for place, target in found])


def name_expression(names, node, mask, scope):
    """Walks through an expression."""
    action = RULES[node[0]] if node[0] in RULES else _inside
    action(names, node, mask, scope)


def name_written(names, node, mask, scope):
    """Walks through a written type."""
    word = node[0]
    if word == "choose":
        for side, part in names.sides(node, mask):
            name_written(names, side, part, scope)
        return
    if word == "named":
        names.use(node, "types", node[2], mask, scope)
    elif word == "from":
        names.use_inside(node, "types", mask, scope)
    elif word == "of":
        for part, target in names.use(node, "data", node[2], mask, scope):
            if len(target.node[3]) != len(node[3]):
                names.fault(node[1], "count", part)
    elif word in ("record", "variant"):
        _check_labels(names, node, node[2], mask)
    for inner in inner_nodes(node):
        name_written(names, inner, mask, scope)


def name_functions(names, node, mask, scope, group):
    """Binds the functions of a rec or defrec and walks through their right sides."""
    inner = Scope(scope)
    for name, _ in group:
        names.fault(node[1], "twice", inner.declare("value", name, mask))
        inner.enter("value", name, mask, Target(node[1], "held", (node[1], name)))
    for _, side in group:
        _check_function(names, side, mask)
        name_expression(names, side, mask, inner)


def has_twice(words):
    """Tells whether a word stands twice."""
    return len(set(words)) != len(words)


def _check_function(names, node, mask):
    """The right side of a function, behind its marks, is a fn or a hole."""
    if node[0] == "mark":
        _check_function(names, node[3], mask)
    elif node[0] == "choose":
        for side, part in names.sides(node, mask):
            _check_function(names, side, part)
    elif node[0] not in ("fn", "hole"):
        names.fault(node[1], "shape", mask)


def _check_labels(names, node, rows, mask):
    if has_twice([row[0] for row in rows]):
        names.fault(node[1], "twice", mask)


def _held(scope, mask, name, number, role):
    """A scope in which a name is bound and held."""
    inner = Scope(scope)
    inner.enter("value", name, mask, Target(number, "held", (number, role)))
    return inner


def _inside(names, node, mask, scope):
    """Expressions that bind nothing and have only expressions inside."""
    for inner in inner_nodes(node):
        name_expression(names, inner, mask, scope)


def _name(names, node, mask, scope):
    names.use(node, "value", node[2], mask, scope)


def _member(names, node, mask, scope):
    names.use_inside(node, "value", mask, scope)


def _fn(names, node, mask, scope):
    name_expression(names, node[3], mask, _held(scope, mask, node[2], node[1], "in"))


def _let(names, node, mask, scope):
    name_expression(names, node[3], mask, scope)
    inner = Scope(scope)
    inner.enter("value", node[2], mask, Target(node[1], "defined", node[2]))
    name_expression(names, node[4], mask, inner)


def _rec(names, node, mask, scope):
    name_functions(names, node, mask, scope, node[2])
    inner = Scope(scope)
    for name, _ in node[2]:
        inner.enter("value", name, mask, Target(node[1], "defined", name))
    name_expression(names, node[3], mask, inner)


def _record_rule(names, node, mask, scope):
    _check_labels(names, node, node[2], mask)
    _inside(names, node, mask, scope)


def _case(names, node, mask, scope):
    _check_labels(names, node, node[3], mask)
    name_expression(names, node[2], mask, scope)
    for at, (_, name, side) in enumerate(node[3]):
        name_expression(names, side, mask, _held(scope, mask, name, node[1], at))
    if node[4] is not None:
        name, side = node[4]
        name_expression(names, side, mask, _held(scope, mask, name, node[1], "else"))


def _make(names, node, mask, scope):
    names.use(node, "maker", node[2], mask, scope)
    name_expression(names, node[3], mask, scope)


def _match(names, node, mask, scope):
    name_expression(names, node[2], mask, scope)
    _arms(names, node[3], mask, scope)


def _arms(names, rows, mask, scope):
    for row in rows:
        if row[0] == "when":
            for side, part in names.sides(row, mask):
                _arms(names, side, part, scope)
        else:
            inner = Scope(scope)
            _pattern(names, row[2], mask, inner)
            name_expression(names, row[3], mask, inner)


def _pattern(names, node, mask, scope):
    """Walks through a pattern; its names are bound in the scope of the arm."""
    word = node[0]
    if word == "choose":
        for side, part in names.sides(node, mask):
            _pattern(names, side, part, scope)
        return
    if word == "name":
        names.fault(node[1], "twice", scope.declare("value", node[2], mask))
        scope.enter("value", node[2], mask, Target(node[1], "held", (node[1], "")))
    elif word == "make":
        names.use(node, "maker", node[2], mask, scope)
    elif word == "record":
        _check_labels(names, node, node[2], mask)
    for inner in inner_nodes(node):
        _pattern(names, inner, mask, scope)


def _cell(names, node, mask, scope):
    name_written(names, node[2], mask, scope)
    name_expression(names, node[3], mask, scope)


def _is(names, node, mask, scope):
    name_expression(names, node[2], mask, scope)
    name_written(names, node[3], mask, scope)


def _choose(names, node, mask, scope):
    for side, part in names.sides(node, mask):
        name_expression(names, side, part, scope)


RULES = {
    "name": _name,
    "member": _member,
    "fn": _fn,
    "let": _let,
    "rec": _rec,
    "record": _record_rule,
    "case": _case,
    "make": _make,
    "match": _match,
    "cell": _cell,
    "is": _is,
    "choose": _choose,
}
