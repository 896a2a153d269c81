"""Finds the loops that change what they go over (L5 Iteration and L23 of LANGUAGE.md).

A function is looked at without regard to the order of its rows: a name may be
whatever is assigned to it anywhere in the function, so `xs = ys` makes both one
list from its first row on. A list or dict behind an attribute or an item may be
any other one that is reached off the same object. What is told need not do harm
when it runs; such a loop goes over `list(xs)`, or changes another list.

A path is a tuple of a name and the steps off it: `box.rows[k]` is ("box",
".rows", "[]").
"""

import ast

CHANGES = {"append", "extend", "pop", "insert", "remove", "clear", "update", "setdefault",
           "reverse", "sort", "add", "discard"}
VIEWS = {"items", "keys", "values"}
ITEMS = {"get", "setdefault", "pop"}
COPIES = {"list", "tuple", "sorted", "range"}
THROUGH = {"enumerate", "zip", "reversed"}
LOOPS = (ast.For, ast.ListComp, ast.SetComp, ast.DictComp, ast.GeneratorExp)
LONGEST = 6


def changed_while_walked(tree):
    """A text for each change in a loop of what the loop may go over."""
    found = []
    for function in functions_of(tree):
        origins = origins_in(function)
        for loop in ast.walk(function):
            if isinstance(loop, LOOPS):
                found.extend(changes_of_walked(loop, origins))
    return sorted(set(found))


def functions_of(tree):
    """The functions and methods that are not nested in one."""
    for node in tree.body:
        if isinstance(node, ast.ClassDef):
            yield from functions_of(node)
        elif isinstance(node, ast.FunctionDef):
            yield node


def changes_of_walked(loop, origins):
    for walk, inside in walks_of(loop):
        over = all_forms(walked_paths(walk), origins)
        named = all_forms(named_paths(walk), origins)
        for part in inside:
            for row, thing, adds in changes_in(part):
                changed = all_forms(paths(thing), origins)
                if changed & (over | named) or not adds and same_object(over, changed):
                    yield f"{row}: {ast.unparse(thing)} in a loop over {ast.unparse(walk)}"


def walks_of(loop):
    """What a loop goes over, each with what is done inside."""
    if isinstance(loop, ast.For):
        yield loop.iter, loop.body
        return
    for at, step in enumerate(loop.generators):
        later = loop.generators[at + 1:]
        made = [loop.key, loop.value] if isinstance(loop, ast.DictComp) else [loop.elt]
        yield step.iter, [*step.ifs, *later, *made]


def same_object(over, changed):
    """Whether both may stand behind attributes or items of one object.

    It is not asked of a `+=`, which mostly changes a number.
    """
    roots = {path[0] for path in over if len(path) > 1}
    return any(path[0] in roots for path in changed if len(path) > 1)


def changes_in(part):
    """The row of each change, what is changed, and whether it is a `+=`."""
    for node in ast.walk(part):
        if isinstance(node, ast.Call) and isinstance(node.func, ast.Attribute):
            if node.func.attr in CHANGES:
                yield node.lineno, node.func.value, False
        elif isinstance(node, ast.Subscript) and not isinstance(node.ctx, ast.Load):
            yield node.lineno, node.value, False
        elif isinstance(node, ast.AugAssign):
            yield node.lineno, node.target, True


def origins_in(function):
    """For each path that is assigned in a function the paths that it is assigned."""
    origins = {}
    for node in ast.walk(function):
        if isinstance(node, ast.Assign):
            for target in node.targets:
                note(origins, target, node.value)
        elif isinstance(node, (ast.AnnAssign, ast.NamedExpr)) and node.value is not None:
            note(origins, node.target, node.value)
        elif isinstance(node, (ast.For, ast.comprehension)):
            note_items(origins, node.target, walked_paths(node.iter))
    return origins


def note(origins, target, value):
    several = (ast.Tuple, ast.List)
    if isinstance(target, several) and isinstance(value, several) and not any(
            isinstance(part, ast.Starred) for part in [*target.elts, *value.elts]):
        for part, worth in zip(target.elts, value.elts):
            note(origins, part, worth)
    elif isinstance(target, several):
        note_items(origins, target, paths(value))
    else:
        for path in paths(target):
            origins.setdefault(path, []).extend(paths(value))


def note_items(origins, target, whole):
    """Each name of a target may be an item of what is taken apart."""
    for node in ast.walk(target):
        if isinstance(node, ast.Name) and isinstance(node.ctx, ast.Store):
            origins.setdefault((node.id,), []).extend([(*path, "[]") for path in whole])


def walked_paths(node):
    """The paths of what is gone over; copies and what is made on the spot have none."""
    if isinstance(node, ast.Call):
        if isinstance(node.func, ast.Name) and node.func.id in THROUGH:
            return [path for part in node.args for path in walked_paths(part)]
        if isinstance(node.func, ast.Attribute) and node.func.attr in VIEWS:
            return walked_paths(node.func.value)
    if isinstance(node, (ast.IfExp, ast.BoolOp)):
        return [path for part in choices(node) for path in walked_paths(part)]
    return paths(node)


def named_paths(node):
    """The paths of all that is named where a loop says what it goes over."""
    if isinstance(node, ast.Call) and isinstance(node.func, ast.Name) and node.func.id in COPIES:
        return []
    return [path for inner in ast.walk(node) if isinstance(inner, (ast.Name, ast.Attribute))
            for path in paths(inner)]


def paths(node):
    """The paths by which a value is reached."""
    if isinstance(node, ast.Name):
        return [(node.id,)]
    if isinstance(node, ast.Attribute):
        return [(*path, "." + node.attr) for path in paths(node.value)]
    if isinstance(node, ast.Subscript) and not isinstance(node.slice, ast.Slice):
        return [(*path, "[]") for path in paths(node.value)]
    if isinstance(node, ast.Call) and isinstance(node.func, ast.Attribute):
        if node.func.attr in ITEMS:
            whole = [(*path, "[]") for path in paths(node.func.value)]
            return whole + [path for part in node.args[1:] for path in paths(part)]
    return [path for part in choices(node) for path in paths(part)]


def choices(node):
    """The values of which one is the value of a choice."""
    if isinstance(node, ast.IfExp):
        return [node.body, node.orelse]
    if isinstance(node, ast.BoolOp):
        return node.values
    if isinstance(node, ast.NamedExpr):
        return [node.target, node.value]
    return []


def all_forms(several, origins):
    return {form for path in several for form in forms(path, origins)}


def forms(path, origins):
    """All paths of what a path may be."""
    found = {path}
    work = [path]
    while work:
        known = work.pop()
        for end in range(1, len(known) + 1):
            for origin in origins.get(known[:end], ()):
                form = origin + known[end:]
                if len(form) <= LONGEST and form not in found:
                    found.add(form)
                    work.append(form)
    return found
