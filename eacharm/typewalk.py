"""The types of whole programs and of their declarations (8.6 and Part 10)."""

from eacharm.typer import Typer
from eacharm.typerules import expression_type, function_types, plain_written
from eacharm.writtentypes import hidden_term, meet, told_value


def typed_program(program, names, living):
    """The typer that has walked through a program, and the type of main."""
    typer = Typer(names, living)
    _declarations(typer, program[2], True)
    return typer, expression_type(typer, program[3], True, ())


def shown_ways(typer, module):
    """What a module of the top shows: for each (space, name) pairs (condition, term)."""
    names = typer.names
    found = {}
    views, _ = names.top.pieces("module", module, names.masks.whole)
    for mask, view in views:
        entries = () if view.shown is None else list(view.shown.entries)
        for space, name in entries:
            pieces, _ = view.pieces(space, name, mask)
            for part, target in typer.narrowed(True, pieces):
                term = _shown_term(typer, view, target, part)
                found.setdefault((space, name), []).append((part, term))
    return found


def _shown_term(typer, view, target, condition):
    if target.word == "defined":
        return typer.defined[(target.number, target.name)].term
    if target.word == "val":
        return told_value(typer, view, target, condition)[0]
    return hidden_term(typer, view, target.name, condition)


def _declarations(typer, rows, condition):
    for row in rows:
        word = row[0]
        if word == "when":
            for side, part in typer.sides(row, condition):
                _declarations(typer, side, part)
        elif word == "def":
            term = expression_type(typer, row[3], condition, ())
            typer.define(row[1], row[2], condition, term, ())
        elif word == "defrec":
            function_types(typer, row, condition, (), row[2])
        elif word == "alias":
            typer.aliases[row[1]] = plain_written(typer, row[3], condition)
        elif word == "functor":
            _declarations(typer, row[5], condition)
            _meet_all(typer, row[1], condition)
        elif word == "module":
            _body(typer, row[3], condition)
            _meet_all(typer, row[1], condition)


def _body(typer, body, condition):
    if body[0] == "choose":
        for side, part in typer.sides(body, condition):
            _body(typer, side, part)
    elif body[0] == "struct":
        _declarations(typer, body[2], condition)
    else:
        _meet_all(typer, body[1], condition)


def _meet_all(typer, number, condition):
    """Demands what the module, apply or functor with the number must meet."""
    meetings = typer.names.meetings.get(number, [])
    for part, asked, view in typer.narrowed(condition, meetings):
        meet(typer, part, asked, view)
