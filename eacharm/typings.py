"""Typings: the types of all nodes of one program of a check (Part 11)."""

from eacharm.choosing import chosen, kept_only
from eacharm.conditions import holds
from eacharm.declaring import names_of
from eacharm.errors import NotTyped
from eacharm.terms import row_letters_in
from eacharm.typewalk import typed_program


class Typing:
    """What a typing tells; made by `typing_at` alone."""

    def __init__(self, tree, typer):
        self.tree = tree
        self.told = {number: _resolved(typer, typer.told[number]) for number in typer.told}
        self.uses = {number: _use_pairs(typer, number) for number in typer.used}
        self.generals = {key: tuple(sorted(typer.defined[key].general)) for key in typer.defined}
        self.lacks = _lacks(typer, list(self.told.values()) + _use_terms(self.uses))


def typing_at(told, setting, kept=None):
    """The typing of a check at a setting with some marks kept; raises NotTyped."""
    on = tuple([switch for switch in told.switches if switch in setting])
    marks = tuple([mark for mark in told.marks if kept is None or mark in kept])
    kept_switches = [f"m{mark}" for mark in marks]
    if not holds(told.typable, [*on, *kept_switches]):
        raise NotTyped(on, marks)
    tree = kept_only(chosen(told.program, on), marks)
    typer, _ = typed_program(tree, names_of(tree), True)
    return Typing(tree, typer)


def _resolved(typer, term):
    return typer.store.resolved_at((), term)


def _use_pairs(typer, number):
    """The pairs (general letter, what stands for it) of a use."""
    fresh = typer.used[number]
    _, target, _ = typer.names.uses[number][0]
    tails = ()
    if target.word == "defined":
        tails = row_letters_in(_resolved(typer, typer.defined[(target.number, target.name)].term))
    pairs = []
    for letter in sorted(fresh):
        new = fresh[letter]
        own = ("row", (), new) if letter in tails else ("letter", new)
        pairs.append((letter, _resolved(typer, own)))
    return tuple(pairs)


def _use_terms(uses):
    return [term for number in uses for _, term in uses[number]]


def _lacks(typer, terms):
    """What the row letters of terms and rows lack."""
    tails = {tail: True for term in terms for tail in row_letters_in(term)}
    return {tail: typer.store.lacks_at((), tail) for tail in tails}
