"""Written types as terms (10.1), and what modules tell of their values and types."""


class Key:
    """How a written type is read.

    `letters` has the terms of the letters of a data or val around it; hidden
    names are the types of the module that `view` shows; `argument` is the
    view of the module in the place of a functor's parameter.
    """

    def __init__(self, letters, view=None, argument=None):
        self.letters = letters
        self.view = view
        self.argument = argument


def written_term(typer, node, condition, key):
    """The term of a written type."""
    word = node[0]
    if word in ("int", "bool"):
        return (word,)
    if word == "arrow":
        first = written_term(typer, node[2], condition, key)
        return ("arrow", first, written_term(typer, node[3], condition, key))
    if word == "tuple":
        return ("tuple", _terms(typer, node[2], condition, key))
    if word in ("record", "variant"):
        fields = {label: written_term(typer, part, condition, key) for label, part in node[2]}
        return (word, fields_of(fields), None)
    if word == "of":
        return ("data", node[2], _terms(typer, node[3], condition, key))
    if word == "cell":
        return ("cell", written_term(typer, node[2], condition, key))
    if word == "choose":
        return _chosen_term(typer, node, condition, key)
    if word == "named":
        return _named_term(typer, node, condition, key)
    return _term_from(typer, node, condition, key)


def fields_of(terms):
    """The fields of a row from the terms of the labels."""
    return tuple([(label, terms[label]) for label in sorted(terms)])


def hidden_term(typer, view, name, condition):
    """The term of a type that a module shows."""
    if view.word != "struct":
        return ("hidden", view.name, name)
    found, _ = view.pieces("types", name, typer.names.masks.whole)
    ways = typer.parted(condition, found)
    return typer.joined([(part, typer.aliases[target.number]) for part, target in ways])


def told_value(typer, view, target, condition):
    """The type of a use of a module's value, and the new letter of each general one."""
    if target.word == "defined":
        return typer.instance(condition, target.number, target.name)
    letters = {name: typer.letter() for name in target.node[3]}
    term = written_term(typer, target.node[4], condition, Key(letters, view, view.argument))
    return term, {at: letters[name][1] for at, name in enumerate(target.node[3])}


def meet(typer, condition, asked, view):
    """Demands that a module meets items: each val is an instance of what it tells."""
    for space, name in asked.entries:
        if space == "value":
            vals, _ = asked.own_pieces(space, name, typer.names.masks.whole)
            for part, val in typer.narrowed(condition, vals):
                found, _ = view.pieces(space, name, typer.names.masks.whole)
                for place, target in typer.narrowed(part, found):
                    _meet_val(typer, place, val, view, target)


def data_term(typer, target, condition):
    """The types of a constructor's argument and of the whole, for one use."""
    data, maker = target.node
    letters = {name: typer.letter() for name in data[3]}
    term = written_term(typer, maker[3], condition, Key(letters))
    return term, ("data", data[2], tuple([letters[name] for name in data[3]]))


def _meet_val(typer, condition, val, view, target):
    # The letters of a val are fixed: stones whose strings no other val has.
    letters = {name: ("stone", f"{val.number}.{name}") for name in val.node[3]}
    wanted = written_term(typer, val.node[4], condition, Key(letters, view))
    told, _ = told_value(typer, view, target, condition)
    typer.store.unify(condition, told, wanted)


def _terms(typer, nodes, condition, key):
    return tuple([written_term(typer, node, condition, key) for node in nodes])


def _chosen_term(typer, node, condition, key):
    ways = typer.sides(node, condition)
    return typer.joined([(part, written_term(typer, side, part, key)) for side, part in ways])


def _named_term(typer, node, condition, key):
    ways = []
    for part, target, _ in typer.meanings(node[1], condition):
        if target.word == "letter":
            term = key.letters[target.name]
        elif target.word == "alias":
            term = typer.aliases[target.number]
        else:
            term = hidden_term(typer, key.view, target.name, part)
        ways.append((part, term))
    return typer.joined(ways)


def _term_from(typer, node, condition, key):
    ways = []
    for part, target, view in typer.meanings(node[1], condition):
        if view.word == "parameter" and key.argument is not None:
            view = key.argument
        if target.word == "alias":
            term = typer.aliases[target.number]
        else:
            term = hidden_term(typer, view, target.name, part)
        ways.append((part, term))
    return typer.joined(ways)
