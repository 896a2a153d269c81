"""The unfolded program (12.5): its places and their given claims, and its size.

What a use means comes from the walk through the names. `chains` tells for each
node that binds a held name around a place in which copy it is meant; entries of
nodes that are not around the place are never asked for.
"""

from eacharm.claims import given_claims, letter, same
from eacharm.declaring import names_of
from eacharm.trees import all_nodes, inner_nodes, node_sorts
from eacharm.typer import Typer
from eacharm.writtentypes import Key, written_term

COUNTED = ("expression", "pattern")
PASSED = ("written", "maker", "item")
GROUPS = ("rec", "defrec")
DEFINITIONS = ("let", "rec", "def", "defrec")


class Unfolding:
    """What a walk through a program without choices and marks has found so far.

    `given` has pairs (place, claim); `copies` are still to be walked through:
    triples of a definition, the chain of its copy, and the chains around it.
    """

    def __init__(self, tree):
        self.names = names_of(tree)
        self.typer = Typer(self.names, True)
        self.sorts = node_sorts(tree)
        self.nodes = {node[1]: node for node in all_nodes(tree)}
        self.given = []
        self.copies = []

    def give(self, node, chain, claims):
        """Notes the claims of a place."""
        for claim in claims:
            self.given.append(((node[1], chain), claim))

    def meaning(self, node):
        """What a use means: its target, and the view of the module."""
        _, target, view = self.names.uses[node[1]][0]
        return target, view

    def written(self, node, letters, view=None, argument=None):
        """The term of a written type."""
        return written_term(self.typer, node, True, Key(letters, view, argument))


def claims_of(tree):
    """The pairs (place, claim) of all places of a program."""
    unfolding = Unfolding(tree)
    _walk(unfolding, tree, (), {})
    while unfolding.copies:
        node, chain, chains = unfolding.copies.pop()
        for _, side in _sides(node):
            _walk(unfolding, side, chain, {**chains, node[1]: chain})
    return unfolding.given


def size_of(tree):
    """The number of places of expressions and patterns, without unfolding."""
    return _size(Unfolding(tree), tree, {})


def _sides(node):
    """The pairs (name, right side) of a definition."""
    return node[2] if node[0] in GROUPS else ((node[2], node[3]),)


def _walk(unfolding, node, chain, chains):
    """Walks through a node and all inside it, in one copy."""
    sort = unfolding.sorts[node[1]]
    if sort in PASSED:
        return
    if sort in COUNTED:
        unfolding.give(node, chain, given_claims(sort, node, chain))
        if (sort, node[0]) in MEANINGS:
            rule = MEANINGS[(sort, node[0])]
            unfolding.give(node, chain, rule(unfolding, node, chain, chains))
    elif node[0] == "alias":
        unfolding.typer.aliases[node[1]] = unfolding.written(node[3], {})
    inner = dict(chains)
    for number in _binding_numbers(node):
        inner[number] = chain
    for part in inner_nodes(node):
        _walk(unfolding, part, chain, inner)
    for val, target, view in _demands(unfolding, node):
        _meet(unfolding, node, val, target, view)


def _binding_numbers(node):
    """The numbers of the nodes that bind held names for what is inside a node."""
    if node[0] in ("fn", "case", "rec", "defrec"):
        return [node[1]]
    if node[0] == "match":
        return [part[1] for arm in node[3] for part in all_nodes(arm[2])]
    return []


def _demands(unfolding, node):
    """The vals that a module must meet at a node: (val, what meets it, view) each."""
    whole = unfolding.names.masks.whole
    found = []
    for _, asked, view in unfolding.names.meetings.get(node[1], []):
        for space, name in asked.entries:
            if space == "value":
                vals, _ = asked.own_pieces(space, name, whole)
                targets, _ = view.pieces(space, name, whole)
                found.append((vals[0][1], targets[0][1], view))
    return found


def _meet(unfolding, node, val, target, view):
    """Gives the claim of a val, at a place of its own."""
    chain = ((node[1], val.number),)
    stones = {name: ("stone", f"{val.number}.{name}") for name in val.node[3]}
    wanted = unfolding.written(val.node[4], stones, view)
    if target.word == "defined":
        term = _copied_root(unfolding, target, chain, {})
    else:
        term = _told_term(unfolding, target, view, chain, val.number)
    unfolding.give(val.node, chain, [same(wanted, term)])


def _copied_root(unfolding, target, chain, chains):
    """The letter of a right side in a copy of its own, which is to be walked through."""
    node = unfolding.nodes[target.number]
    unfolding.copies.append((node, chain, chains))
    return letter(chain, dict(_sides(node))[target.name][1])


def _told_term(unfolding, target, view, chain, number):
    """What a module tells of a val, for the use at a place."""
    letters = _own_letters(target.node[3], chain, number)
    return unfolding.written(target.node[4], letters, view, view.argument)


def _own_letters(names, chain, number):
    """What stands at a place for the letters of a data or val."""
    return {name: letter(chain, number, f"of {name}") for name in names}


def _held_term(unfolding, target, chains):
    """The letter or term of a held name."""
    number, role = target.name
    node, chain = unfolding.nodes[number], chains[number]
    if node[0] in GROUPS:
        return letter(chain, dict(node[2])[role][1])
    if node[0] != "case":
        return letter(chain, number, role)
    if role == "else":
        return ("variant", (), (chain, number, "row"))
    return letter(chain, number, f"arm {node[3][role][0]}")


def _use_claims(unfolding, node, chain, chains):
    """What a name or a member claims."""
    target, view = unfolding.meaning(node)
    if target.word == "held":
        term = _held_term(unfolding, target, chains)
    elif target.word == "defined":
        term = _copied_root(unfolding, target, (*chain, node[1]), chains)
    else:
        term = _told_term(unfolding, target, view, chain, node[1])
    return [same(letter(chain, node[1]), term)]


def _make_claims(unfolding, node, chain, chains):
    target, _ = unfolding.meaning(node)
    data, maker = target.node
    letters = _own_letters(data[3], chain, node[1])
    whole = ("data", data[2], tuple([letters[name] for name in data[3]]))
    content = unfolding.written(maker[3], letters)
    return [same(letter(chain, node[1]), whole), same(letter(chain, node[3][1]), content)]


def _cell_claims(unfolding, node, chain, chains):
    content = unfolding.written(node[2], {})
    first = same(letter(chain, node[3][1]), content)
    return [first, same(letter(chain, node[1]), ("cell", content))]


def _is_claims(unfolding, node, chain, chains):
    term = unfolding.written(node[3], {})
    return [same(letter(chain, node[2][1]), term), same(letter(chain, node[1]), term)]


def _size(unfolding, node, copies):
    """The places of a node and all inside it; `copies` has those of one copy of a definition.

    Definitions stand before their uses in reading order.
    """
    sort = unfolding.sorts[node[1]]
    if sort in PASSED:
        return 0
    size = 1 if sort in COUNTED else 0
    for _, target, _ in unfolding.names.uses.get(node[1], []):
        if target.word == "defined":
            size += copies[target.number]
    parts = list(inner_nodes(node))
    if node[0] in DEFINITIONS and sort != "pattern":
        many = len(_sides(node))
        copies[node[1]] = sum([_size(unfolding, part, copies) for part in parts[:many]])
        size += copies[node[1]]
        parts = parts[many:]
    size += sum([_size(unfolding, part, copies) for part in parts])
    for _, target, _ in _demands(unfolding, node):
        if target.word == "defined":
            size += copies[target.number]
    return size


MEANINGS = {
    ("expression", "name"): _use_claims,
    ("expression", "member"): _use_claims,
    ("expression", "make"): _make_claims,
    ("pattern", "make"): _make_claims,
    ("expression", "cell"): _cell_claims,
    ("expression", "is"): _is_claims,
}
