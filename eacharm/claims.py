"""The given claims of places (12.7), where nothing of other nodes is needed.

A rule takes a node and the chain of its place and gives the claims in the order
of the document. What names, makes and written types claim rests on what they
mean and is told in `unfolding`.
"""

INT = ("int",)
BOOL = ("bool",)
NOTHING = ("record", (), None)


def letter(chain, number, role=""):
    """The letter of a node in a copy, as a term."""
    return ("letter", (chain, number, role))


def same(left, right):
    """The claim that two terms are equal."""
    return ("same", left, right)


def given_claims(sort, node, chain):
    """The claims of an expression or a pattern."""
    if (sort, node[0]) in RULES:
        rule = RULES[(sort, node[0])]
        return rule(node, chain)
    return []


def fields_of(rows, chain):
    """The fields of rows (label, node), in the order of the labels."""
    fields = {}
    for label, part in rows:
        fields[label] = letter(chain, part[1])
    return tuple([(label, fields[label]) for label in sorted(fields)])


def _row(node, chain):
    """The row letter of a node."""
    return (chain, node[1], "row")


def _number(node, chain):
    return [same(letter(chain, node[1]), INT)]


def _truth(node, chain):
    return [same(letter(chain, node[1]), BOOL)]


def _fn(node, chain):
    arrow = ("arrow", letter(chain, node[1], "in"), letter(chain, node[3][1]))
    return [same(letter(chain, node[1]), arrow)]


def _app(node, chain):
    arrow = ("arrow", letter(chain, node[3][1]), letter(chain, node[1]))
    return [same(letter(chain, node[2][1]), arrow)]


def _let(node, chain):
    return [same(letter(chain, node[1]), letter(chain, node[4][1]))]


def _rec(node, chain):
    return [same(letter(chain, node[1]), letter(chain, node[3][1]))]


def _if(node, chain):
    whole = letter(chain, node[1])
    test, first, second = [letter(chain, part[1]) for part in node[2:]]
    return [same(test, BOOL), same(first, whole), same(second, whole)]


def _op(node, chain):
    sides = [same(letter(chain, part[1]), INT) for part in node[3:]]
    return [*sides, same(letter(chain, node[1]), INT if node[2] in ("+", "-") else BOOL)]


def _tuple(node, chain):
    parts = tuple([letter(chain, part[1]) for part in node[2]])
    return [same(letter(chain, node[1]), ("tuple", parts))]


def _fields(node, chain):
    return [same(letter(chain, node[1]), ("record", fields_of(node[2], chain), None))]


def _with_field(node, chain, field):
    """The record of a field beside the node's row letter."""
    return ("record", ((node[2], field),), _row(node, chain))


def _without_field(node, chain):
    return ("record", (), _row(node, chain))


def _lacks(node, chain, labels):
    return [("lacks", _row(node, chain), label) for label in labels]


def _get(node, chain):
    record = _with_field(node, chain, letter(chain, node[1]))
    return [same(letter(chain, node[3][1]), record), *_lacks(node, chain, [node[2]])]


def _extend(node, chain):
    whole = _with_field(node, chain, letter(chain, node[3][1]))
    first = same(letter(chain, node[4][1]), _without_field(node, chain))
    return [first, same(letter(chain, node[1]), whole), *_lacks(node, chain, [node[2]])]


def _update(node, chain):
    old = _with_field(node, chain, letter(chain, node[1], "old"))
    whole = _with_field(node, chain, letter(chain, node[3][1]))
    first = same(letter(chain, node[4][1]), old)
    return [first, same(letter(chain, node[1]), whole), *_lacks(node, chain, [node[2]])]


def _without(node, chain):
    old = _with_field(node, chain, letter(chain, node[1], "old"))
    first = same(letter(chain, node[3][1]), old)
    second = same(letter(chain, node[1]), _without_field(node, chain))
    return [first, second, *_lacks(node, chain, [node[2]])]


def _tag(node, chain):
    variant = ("variant", ((node[2], letter(chain, node[3][1])),), _row(node, chain))
    return [same(letter(chain, node[1]), variant), *_lacks(node, chain, [node[2]])]


def _case(node, chain):
    whole = letter(chain, node[1])
    labels = sorted([label for label, _, _ in node[3]])
    fields = tuple([(label, letter(chain, node[1], f"arm {label}")) for label in labels])
    rest = None if node[4] is None else _row(node, chain)
    claims = [same(letter(chain, node[2][1]), ("variant", fields, rest))]
    if node[4] is not None:
        claims.extend(_lacks(node, chain, labels))
    claims.extend([same(letter(chain, side[1]), whole) for _, _, side in node[3]])
    if node[4] is not None:
        claims.append(same(letter(chain, node[4][1][1]), whole))
    return claims


def _match(node, chain):
    claims = []
    for _, _, pattern, side in node[3]:
        claims.append(same(letter(chain, node[2][1]), letter(chain, pattern[1])))
        claims.append(same(letter(chain, side[1]), letter(chain, node[1])))
    return claims


def _read(node, chain):
    return [same(letter(chain, node[2][1]), ("cell", letter(chain, node[1])))]


def _write(node, chain):
    cell = ("cell", letter(chain, node[3][1]))
    return [same(letter(chain, node[2][1]), cell), same(letter(chain, node[1]), NOTHING)]


def _record_pattern(node, chain):
    record = ("record", fields_of(node[2], chain), _row(node, chain))
    labels = [label for label, _ in node[2]]
    return [same(letter(chain, node[1]), record), *_lacks(node, chain, labels)]


RULES = {
    ("expression", "number"): _number,
    ("expression", "truth"): _truth,
    ("expression", "fn"): _fn,
    ("expression", "app"): _app,
    ("expression", "let"): _let,
    ("expression", "rec"): _rec,
    ("expression", "if"): _if,
    ("expression", "op"): _op,
    ("expression", "tuple"): _tuple,
    ("expression", "record"): _fields,
    ("expression", "get"): _get,
    ("expression", "extend"): _extend,
    ("expression", "update"): _update,
    ("expression", "without"): _without,
    ("expression", "tag"): _tag,
    ("expression", "case"): _case,
    ("expression", "match"): _match,
    ("expression", "read"): _read,
    ("expression", "write"): _write,
    ("pattern", "number"): _number,
    ("pattern", "truth"): _truth,
    ("pattern", "tuple"): _tuple,
    ("pattern", "record"): _record_pattern,
}
