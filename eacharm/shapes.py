"""Shapes: which values patterns match, miss and match for nothing (Part 9)."""

from eacharm.choosing import chosen, node_conditions, partly
from eacharm.conditions import both, but_not, either, switch_condition
from eacharm.tables import table_of
from eacharm.trees import all_nodes
from eacharm.walking import NAMELESS, OPEN, first_missing

PLAIN = ("number", "truth")


def bindings_of(pattern, told):
    """The pairs (name, value) of a match, or None if the value does not match."""
    word = pattern[0]
    if word in NAMELESS:
        return ((pattern[2], told),) if word == "name" else ()
    if word != told[0]:
        return None
    if word in PLAIN:
        return () if pattern[2] == told[1] else None
    if word == "make":
        return bindings_of(pattern[3], told[2]) if pattern[2] == told[1] else None
    if word == "tuple":
        same = len(pattern[2]) == len(told[1])
        return _all_bindings(list(zip(pattern[2], told[1]))) if same else None
    fields = dict(told[1])
    if any([label not in fields for label, _ in pattern[2]]):
        return None
    return _all_bindings([(part, fields[label]) for label, part in pattern[2]])


def missing_shape(patterns, makers, *, within=None):
    """The first missing shape of patterns, or None."""
    target = OPEN if within is None else within
    found = first_missing([(pattern,) for pattern in patterns], (target,), makers)
    return None if found is None else found[0]


def needless_places(patterns, makers):
    """The indexes of the needless patterns."""
    found = []
    for at, pattern in enumerate(patterns):
        if missing_shape(patterns[:at], makers, within=pattern) is None:
            found.append(at)
    return tuple(found)


def shape_text(shape):
    """The text of a shape."""
    word = shape[0]
    if word == "any":
        return "_"
    if word == "number":
        return str(shape[1])
    if word == "truth":
        return "true" if shape[1] else "false"
    if word == "make":
        return f"(make {shape[1]} {shape_text(shape[2])})"
    texts = [word]
    for part in shape[1]:
        texts.append(shape_text(part) if word == "tuple" else f"({part[0]} {shape_text(part[1])})")
    return "(" + " ".join(texts) + ")"


def makers_in(program, setting):
    """The constructors of each data declaration at a setting."""
    found = []
    for row in chosen(("program", 0, program[2], ("hole", 0)), setting)[2]:
        if row[0] == "data":
            found.append(tuple([maker[2] for maker in row[4]]))
    return tuple(found)


def arms_at(arms, setting):
    """The pairs (number of the arm, pattern) of the arms at a setting."""
    found = []
    for arm in arms:
        if arm[0] == "when":
            found.extend(arms_at(arm[3] if arm[2] in setting else arm[4], setting))
        else:
            found.append((arm[1], chosen(arm[2], setting)))
    return tuple(found)


def match_shapes(program):
    """The table of the missing shapes of each match, by its number."""
    conditions = node_conditions(program)
    datas = _data_rows(program[2])
    found = {}
    for node in all_nodes(program):
        # A pattern or an arm is never a match.
        if node[0] == "match":
            rows = []
            for condition, arms, makers in _match_ways(node, conditions[node[1]], datas):
                shape = missing_shape([pattern for _, pattern in arms], makers)
                if shape is not None:
                    rows.append((condition, shape))
            found[node[1]] = table_of(rows)
    return found


def cases_table(program):
    """The table of the pairs (number, missing shape) of the first match that is not whole."""
    shapes = match_shapes(program)
    rows = []
    for number in sorted(shapes):
        rows.extend([(condition, (number, shape)) for condition, shape in shapes[number]])
    return table_of(rows)


def needless_arms(program):
    """The pairs (number, condition) of the arms that are needless at some setting."""
    conditions = node_conditions(program)
    datas = _data_rows(program[2])
    found = {}
    for node in all_nodes(program):
        if node[0] == "match":
            for condition, arms, makers in _match_ways(node, conditions[node[1]], datas):
                for at in needless_places([pattern for _, pattern in arms], makers):
                    number = arms[at][0]
                    found[number] = either(found.get(number, False), condition)
    return tuple([(number, found[number]) for number in sorted(found)])


def _all_bindings(pairs):
    """The bindings of several patterns and values, or None if one does not match."""
    found = []
    for pattern, told in pairs:
        more = bindings_of(pattern, told)
        if more is None:
            return None
        found.extend(more)
    return tuple(found)


def _data_rows(rows):
    """The data among declarations, with the whens around them."""
    found = []
    for row in rows:
        if row[0] == "when":
            found.append(("when", row[1], row[2], _data_rows(row[3]), _data_rows(row[4])))
        elif row[0] == "data":
            found.append(row)
    return tuple(found)


def _match_ways(node, condition, datas):
    """The ways in which a match stands: (condition, pairs of arms, makers) each.

    Only the switches of its patterns and of the data that they name are decided.
    """
    arms = _bare_arms(node[3])
    named = {part[2]: True for part in all_nodes(("arms", 0, arms)) if part[0] == "make"}
    ways = []
    for part, decided in _decided_ways(("arms", 0, arms, _naming(datas, named)), condition):
        makers = makers_in(("program", 0, decided[3]), ())
        ways.append((part, arms_at(decided[2], ()), makers))
    return ways


def _bare_arms(rows):
    """Arms without their expressions, whose choices do not matter here."""
    found = []
    for row in rows:
        if row[0] == "when":
            found.append((*row[:3], _bare_arms(row[3]), _bare_arms(row[4])))
        else:
            found.append(row[:3])
    return tuple(found)


def _naming(rows, named):
    """The data of rows that have one of the named constructors, without written types."""
    found = []
    for row in rows:
        if row[0] == "when":
            found.append((*row[:3], _naming(row[3], named), _naming(row[4], named)))
        elif any([part[2] in named for part in all_nodes(row) if part[0] == "maker"]):
            found.append((*row[:4], _bare_arms(row[4])))
    return tuple(found)


def _decided_ways(tree, condition):
    """The trees that a tree with choices comes to, each with its condition."""
    ways = []
    work = [(condition, tree)]
    while work:
        part, rest = work.pop()
        switch = _first_switch(rest)
        if part is False:
            continue
        if switch is None:
            ways.append((part, rest))
        else:
            on = switch_condition(switch)
            work.append((but_not(part, on), partly(rest, ((switch, False),))))
            work.append((both(part, on), partly(rest, ((switch, True),))))
    return ways


def _first_switch(tree):
    """The switch of a choice of a tree that stands in no other choice, or None."""
    for node in all_nodes(tree):
        if node[0] in ("choose", "when"):
            return node[2]
    return None
