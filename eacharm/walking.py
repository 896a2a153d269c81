"""The walk that finds the first missing shape of rows of patterns (9.4).

The walk keeps states: a list of rows, the target, and the steps that led to it.
A step is a pair (word, detail); the steps from first to last spell the shapes
from left to right, a tuple, a record or a make before what is inside it.
States that are still to be looked at lie on a stack, the next one last.
"""

OPEN = ("any", 0)
NAMELESS = ("any", "name")


def first_missing(rows, target, makers):
    """The tuple of missing shapes, one for each column, or None."""
    states = [(rows, target, None)]
    while states:
        rows, target, steps = states.pop()
        if target:
            states.extend(_next_states(rows, target, steps, makers)[::-1])
        elif not rows:
            return _spelled(steps)
    return None


def _next_states(rows, target, steps, makers):
    """The states that a state leads to, in the order of the walk."""
    column = [target[0], *[row[0] for row in rows]]
    closed = [pattern for pattern in column if pattern[0] not in NAMELESS]
    if not closed:
        return [([row[1:] for row in rows], target[1:], (("any", None), steps))]
    word = closed[0][0]
    if word == "tuple":
        return [_tuple_state(rows, target, steps, len(closed[0][2]))]
    if word == "record":
        return [_record_state(rows, target, steps, closed)]
    if word == "make":
        return _make_states(rows, target, steps, _maker_cases(target[0], closed[0][2], makers))
    found = []
    for worth in _plain_cases(word, target[0], closed):
        rest = [row[1:] for row in rows if _is_of(row[0], word, worth)]
        found.append((rest, target[1:], ((word, worth), steps)))
    return found


def _tuple_state(rows, target, steps, many):
    kept = [row for row in rows if row[0][0] in NAMELESS or (row[0][0] == "tuple" and len(row[0][2]) == many)]
    rest = [(*_tuple_columns(row[0], many), *row[1:]) for row in kept]
    return rest, (*_tuple_columns(target[0], many), *target[1:]), (("tuple", many), steps)


def _tuple_columns(pattern, many):
    return pattern[2] if pattern[0] == "tuple" else (OPEN,) * many


def _record_state(rows, target, steps, closed):
    labels = {label: True for pattern in closed if pattern[0] == "record" for label, _ in pattern[2]}
    labels = tuple(sorted(labels))
    kept = [row for row in rows if row[0][0] in NAMELESS or row[0][0] == "record"]
    rest = [(*_record_columns(row[0], labels), *row[1:]) for row in kept]
    return rest, (*_record_columns(target[0], labels), *target[1:]), (("record", labels), steps)


def _record_columns(pattern, labels):
    known = dict(pattern[2]) if pattern[0] == "record" else {}
    return tuple([known.get(label, OPEN) for label in labels])


def _maker_cases(pattern, maker, makers):
    """The constructors that are looked at where a pattern has the given one."""
    if pattern[0] == "make":
        return (maker,)
    for group in makers:
        if maker in group:
            return group
    return (maker,)


def _make_states(rows, target, steps, cases):
    found = []
    for maker in cases:
        rest = [(_content(row[0]), *row[1:]) for row in rows if _is_of(row[0], "make", maker)]
        found.append((rest, (_content(target[0]), *target[1:]), (("make", maker), steps)))
    return found


def _content(pattern):
    return pattern[3] if pattern[0] == "make" else OPEN


def _plain_cases(word, pattern, closed):
    """The truths or numbers that are looked at, in order."""
    if pattern[0] == word:
        return [pattern[2]]
    if word == "truth":
        return [False, True]
    known = sorted({pattern[2]: True for pattern in closed if pattern[0] == "number"})
    least = 0
    while least in known:
        least += 1
    return [least, *known]


def _is_of(pattern, word, worth):
    """Whether a pattern is open or of this case."""
    if pattern[0] in NAMELESS:
        return True
    return pattern[0] == word and pattern[2] == worth


def _spelled(steps):
    """The tuple of the shapes that steps spell."""
    shapes = []
    while steps is not None:
        (word, detail), steps = steps
        if word == "any":
            shapes.append(("any",))
        elif word == "tuple":
            shapes.append(("tuple", tuple(_taken(shapes, detail))))
        elif word == "record":
            shapes.append(("record", tuple(list(zip(detail, _taken(shapes, len(detail)))))))
        elif word == "make":
            shapes.append(("make", detail, shapes.pop()))
        else:
            shapes.append((word, detail))
    return tuple(shapes[::-1])


def _taken(shapes, many):
    """Takes the last shapes off, which stand in reverse order."""
    return [shapes.pop() for _ in range(many)]
