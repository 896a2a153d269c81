"""Typings: the types of all nodes of one program of a check (Part 11)."""

from eacharm.choosing import chosen, kept_only
from eacharm.conditions import holds
from eacharm.declaring import names_of
from eacharm.errors import NotTyped
from eacharm.typewalk import typed_program


class Typing:
    """What a typing tells; made by `typing_at` alone."""

    def __init__(self, tree, typer):
        numbers = list(typer.told)
        uses = [(number, letter) for number in typer.used for letter in sorted(typer.used[number])]
        terms = [typer.told[number] for number in numbers]
        terms.extend([_new_term(typer, number, letter) for number, letter in uses])
        resolved = typer.store.all_resolved_at((), terms)
        pairs = {number: [] for number in typer.used}
        for (number, letter), term in zip(uses, resolved[len(numbers):]):
            pairs[number].append((letter, term))
        self.tree = tree
        self.told = {number: term for number, term in zip(numbers, resolved)}
        self.uses = {number: tuple(pairs[number]) for number in pairs}
        self.generals = {key: tuple(sorted(typer.defined[key].general)) for key in typer.defined}
        self.lacks = _lacks(typer.store, terms)


def typing_at(told, setting, kept=None):
    """The typing of a check at a setting with some marks kept; raises NotTyped."""
    on = tuple([switch for switch in told.switches if switch in setting])
    marks = tuple([mark for mark in told.marks if kept is None or mark in kept])
    kept_switches = [f"m{mark}" for mark in marks]
    if not holds(told.typable, [*on, *kept_switches]):
        raise NotTyped(on, marks)
    tree = kept_only(chosen(told.program, on), marks)
    typer, _ = typed_program(tree, names_of(tree), True)
    return Typing(tree, typer)


def _new_term(typer, number, letter):
    """What stands for a general letter at a use: its new letter, or a row that ends with it."""
    new = typer.used[number][letter]
    return ("row", (), new) if typer.store.is_row(new) else ("letter", new)


def _lacks(store, terms):
    """What the row letters of terms and rows lack."""
    letters = store.reach(True, ("tuple", tuple(terms)))
    return {letter: store.lacks_at((), letter) for letter in letters if store.is_row(letter)}
