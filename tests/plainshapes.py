"""Part 9 written plainly: the walk as 9.4 tells it, and going through all values."""

import itertools

OPEN = ("any", 0)


def is_open(pattern):
    return pattern[0] in ("any", "name")


def plain_missing(patterns, makers, within=None):
    found = walk([(p,) for p in patterns], (within or OPEN,), makers)
    return None if found is None else found[0]


def plain_needless(patterns, makers):
    return tuple(at for at in range(len(patterns)) if plain_missing(patterns[:at], makers, patterns[at]) is None)


def walk(rows, target, makers):
    """9.4, with recursion from column to column."""
    if not target:
        return None if rows else ()
    first = target[0]
    column = [row[0] for row in rows]
    closed = [p for p in [first, *column] if not is_open(p)]
    if not closed:
        found = walk([row[1:] for row in rows], target[1:], makers)
        return None if found is None else (("any",), *found)
    kind = closed[0]
    rows = [row for row in rows if is_open(row[0]) or row[0][0] == kind[0]]
    if kind[0] == "tuple":
        many = len(kind[2])
        parts = lambda p: (OPEN,) * many if is_open(p) else p[2]
        rows = [parts(row[0]) + row[1:] for row in rows if is_open(row[0]) or len(row[0][2]) == many]
        found = walk(rows, parts(first) + target[1:], makers)
        return None if found is None else (("tuple", found[:many]), *found[many:])
    if kind[0] == "record":
        labels = sorted({label for p in [first, *[row[0] for row in rows]] if p[0] == "record" for label, _ in p[2]})
        parts = lambda p: tuple(dict(() if is_open(p) else p[2]).get(label, OPEN) for label in labels)
        found = walk([parts(row[0]) + row[1:] for row in rows], parts(first) + target[1:], makers)
        many = len(labels)
        return None if found is None else (("record", tuple(zip(labels, found[:many]))), *found[many:])
    if not is_open(first):
        cases = [first[2]]
    elif kind[0] == "truth":
        cases = [False, True]
    elif kind[0] == "number":
        known = {p[2] for p in column if p[0] == "number"}
        cases = [next(k for k in itertools.count() if k not in known), *sorted(known)]
    else:
        cases = next((group for group in makers if kind[2] in group), (kind[2],))
    for case in cases:
        going = [row for row in rows if is_open(row[0]) or row[0][2] == case]
        if kind[0] == "make":
            content = lambda p: OPEN if is_open(p) else p[3]
            found = walk([(content(row[0]), *row[1:]) for row in going], (content(first), *target[1:]), makers)
            if found is not None:
                return (("make", case, found[0]), *found[1:])
        else:
            found = walk([row[1:] for row in going], target[1:], makers)
            if found is not None:
                return ((kind[0], case), *found)
    return None


def matches(pattern, told):
    """9.2 without bindings."""
    word = pattern[0]
    if is_open(pattern):
        return True
    if word != told[0]:
        return False
    if word in ("number", "truth"):
        return pattern[2] == told[1] and type(pattern[2]) is type(told[1])
    if word == "tuple":
        return len(pattern[2]) == len(told[1]) and all(map(matches, pattern[2], told[1]))
    if word == "record":
        fields = dict(told[1])
        return all(label in fields and matches(p, fields[label]) for label, p in pattern[2])
    return pattern[2] == told[1] and matches(pattern[3], told[2])


def values_of(kind, depth=4):
    """All values of a small kind.

    A kind is "truth", ("number", least, greatest), ("tuple", kinds), ("record", rows),
    ("data", {constructor: kind}) or "fn"; a data may contain itself.
    """
    if kind == "truth":
        return [("truth", False), ("truth", True)]
    if kind == "fn":
        return [("fn",)]
    if kind[0] == "number":
        return [("number", k) for k in range(kind[1], kind[2] + 1)]
    if kind[0] == "tuple":
        return [("tuple", parts) for parts in itertools.product(*[values_of(k, depth) for k in kind[1]])]
    if kind[0] == "record":
        rows = [(label, values_of(k, depth)) for label, k in kind[1]]
        worths = itertools.product(*[values for _, values in rows])
        return [("record", tuple((label, v) for (label, _), v in zip(rows, one))) for one in worths]
    if depth == 0:
        return []
    return [("make", c, v) for c in kind[1] for v in values_of(kind[1][c], depth - 1)]


def stands_for(shape, told):
    """Whether a shape stands for a value: 9.1."""
    word = shape[0]
    if word == "any":
        return True
    if word != told[0]:
        return False
    if word in ("number", "truth"):
        return shape[1] == told[1]
    if word == "tuple":
        return len(shape[1]) == len(told[1]) and all(map(stands_for, shape[1], told[1]))
    if word == "record":
        fields = dict(told[1])
        return all(label in fields and stands_for(s, fields[label]) for label, s in shape[1])
    return shape[1] == told[1] and stands_for(shape[2], told[2])
