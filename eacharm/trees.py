"""Trees: nodes, the order in which they are read, their numbers and sorts.

A node is a tuple of a word, a whole number and more. In no other tuple of a
tree does a whole number stand second, so nodes are found without knowing the
forms.
"""

from eacharm.errors import NoNode

# The sort of what stands inside a node of the word, at the index; what is
# not told here has the sort of the node that it stands in.
INNER_SORTS = {
    ("program", 2): "declaration",
    ("program", 3): "expression",
    ("match", 3): "arm",
    ("cell", 2): "written",
    ("is", 3): "written",
    ("arm", 2): "pattern",
    ("arm", 3): "expression",
    ("data", 4): "maker",
    ("def", 3): "expression",
    ("defrec", 2): "expression",
    ("sig", 3): "item",
    ("module", 3): "body",
    ("functor", 5): "declaration",
    ("functor", 6): "item",
    ("alias", 3): "written",
    ("maker", 3): "written",
    ("val", 4): "written",
    ("struct", 2): "declaration",
}


def is_node(thing):
    """Tells whether a part of a tree is a node."""
    if not isinstance(thing, tuple) or len(thing) < 2:
        return False
    return isinstance(thing[0], str) and isinstance(thing[1], int)


def nodes_in(thing):
    """The outermost nodes in a part of a node, in reading order."""
    if is_node(thing):
        return [thing]
    found = []
    if isinstance(thing, tuple):
        for part in thing:
            found.extend(nodes_in(part))
    return found


def placed_nodes(node):
    """The pairs (index in the node, inner node), in reading order."""
    return [(at, inner) for at, part in enumerate(node) for inner in nodes_in(part)]


def inner_nodes(node):
    """The nodes directly inside a node, in reading order."""
    return tuple([inner for _, inner in placed_nodes(node)])


def all_nodes(node):
    """The node and everything inside it, in reading order."""
    found = []
    work = [node]
    while work:
        last = work.pop()
        found.append(last)
        work.extend(inner_nodes(last)[::-1])
    return tuple(found)


def renumbered(program):
    """The same tree with the numbers 0, 1, .. in reading order."""
    return numbered_from(program, 0)


def numbered_from(thing, first):
    """A part of a tree with the numbers from `first` on in reading order."""
    return _numbered(thing, first)[0]


def node_at(program, number):
    """The node with the number; raises NoNode if there is none."""
    for node in all_nodes(program):
        if node[1] == number:
            return node
    raise NoNode(number)


def node_sorts(program):
    """The sort of each node, by number."""
    sorts = {}
    work = [(program, "program")]
    while work:
        node, sort = work.pop()
        sorts[node[1]] = sort
        for at, inner in placed_nodes(node):
            work.append((inner, INNER_SORTS.get((node[0], at), sort)))
    return sorts


def _numbered(thing, first):
    """The pair of the renumbered part and the next free number."""
    if not isinstance(thing, tuple):
        return thing, first
    parts, rest = [], thing
    if is_node(thing):
        parts, rest = [thing[0], first], thing[2:]
        first += 1
    for part in rest:
        done, first = _numbered(part, first)
        parts.append(done)
    return tuple(parts), first
