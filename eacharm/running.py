"""The run of declarations (13.7), and the tasks of a whole program.

The detail of a task of declarations is a triple: the rows that are left, what
the rows so far have bound, and where it goes on behind them: None at the top,
where main follows, otherwise the name of the module that the rows make, with
the detail and the names of the rows around it.
"""

from eacharm.evaluation import bound_functions, expression_task, module_key

MOST_STEPS = 6


def first_tasks(program):
    """The tasks of a whole program; the last one is done first."""
    return [(_tell, None, {}), (_rows, (program[2], {}, None), {})]


def _functor_key(name):
    return "functor " + name


def _first_row(detail):
    return detail[0][0]


def _rows(machine, detail, names):
    rows, own, after = detail
    if rows:
        # Data, signatures and aliases mean nothing to a run.
        action = DECLARATIONS.get(rows[0][0], _no_row)
        action(machine, detail, names)
    elif after is None:
        main = machine.program[3]
        machine.tasks.append(expression_task(main, names))
    else:
        module, around, outer = after
        _go_on(machine, around, outer, {module_key(module): own})


def _go_on(machine, detail, names, more):
    """Goes on behind the first row, which has bound some more names."""
    rows, own, after = detail
    machine.tasks.append((_rows, (rows[1:], {**own, **more}, after), {**names, **more}))


def _wait(machine, detail, names):
    """Leaves the first row for later, when its choice is decided."""
    machine.tasks.append((_rows, detail, names))


def _no_row(machine, detail, names):
    _go_on(machine, detail, names, {})


def _when(machine, detail, names):
    rows, own, after = detail
    group = machine.side_of(rows[0])
    if group is None:
        _wait(machine, detail, names)
    else:
        machine.tasks.append((_rows, ((*group, *rows[1:]), own, after), names))


def _def(machine, detail, names):
    side = _first_row(detail)[3]
    machine.tasks.append((_then_def, detail, names))
    machine.tasks.append(expression_task(side, names))


def _then_def(machine, detail, names):
    _go_on(machine, detail, names, {_first_row(detail)[2]: machine.worths.pop()})


def _defrec(machine, detail, names):
    node = _first_row(detail)
    inner = bound_functions(machine, node, node[2], names)
    if inner is not None:
        _go_on(machine, detail, names, {name: inner[name] for name, _ in node[2]})
    elif machine.waiting is not None:
        _wait(machine, detail, names)


def _functor(machine, detail, names):
    node = _first_row(detail)
    _go_on(machine, detail, names, {_functor_key(node[2]): (node, names)})


def _module(machine, detail, names):
    _, _, name, body, _ = _first_row(detail)
    while body[0] == "choose":
        body = machine.side_of(body)
        if body is None:
            _wait(machine, detail, names)
            return
    after = (name, detail, names)
    if body[0] == "struct":
        machine.tasks.append((_rows, (body[2], {}, after), names))
    elif _functor_key(body[2]) not in names or module_key(body[3]) not in names:
        machine.end("stuck", body[1])
    else:
        functor, around = names[_functor_key(body[2])]
        inner = {**around, module_key(functor[3]): names[module_key(body[3])]}
        machine.tasks.append((_rows, (functor[5], {}, after), inner))


def _tell(machine, detail, names):
    machine.end("value", _told(machine.cells, machine.worths.pop(), 0))


def _told(cells, worth, steps):
    """The told value of a worth that lies some steps below the whole one."""
    word = worth[0]
    if steps > MOST_STEPS:
        return ("deep",)
    if word == "fn":
        return ("fn",)
    if word == "cell":
        return ("cell", _told(cells, cells[worth[1]], steps + 1))
    if word in ("tag", "make"):
        return (word, worth[1], _told(cells, worth[2], steps + 1))
    if word == "tuple":
        return (word, tuple([_told(cells, part, steps + 1) for part in worth[1]]))
    if word == "record":
        return (word, tuple([(label, _told(cells, part, steps + 1)) for label, part in worth[1]]))
    return worth


DECLARATIONS = {
    "when": _when,
    "def": _def,
    "defrec": _defrec,
    "functor": _functor,
    "module": _module,
}
