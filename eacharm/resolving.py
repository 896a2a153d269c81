"""Resolved terms and their schemes, at one setting and at many at once."""

from eacharm.conditions import both, but_not, either
from eacharm.tables import ordered_table
from eacharm.terms import (
    ROWED, row_letters_in, scheme_of, scheme_text, term_parts, term_text, with_parts,
)


def resolved(bindings, setting, term):
    """The term or row with all bindings of a setting put in."""
    if term[0] == "letter":
        term = bindings.head_at(setting, term[1])
    if term[0] in ROWED:
        term = bindings.row_at(setting, term)
    parts = []
    for part in term_parts(term):
        parts.append(resolved(bindings, setting, part))
    return with_parts(term, parts)


def resolved_scheme(bindings, setting, term):
    """The scheme of a term at a setting."""
    done = resolved(bindings, setting, term)
    lacks = {tail: bindings.lacks_at(setting, tail) for tail in row_letters_in(done)}
    return scheme_of(done, lacks)


def resolved_schemes(bindings, condition, term):
    """The table of the schemes of a term under a condition."""
    pieces = []
    for part, done in _variants(bindings, condition, term):
        for place, lacks in _lack_ways(bindings, part, done):
            pieces.append((place, scheme_of(done, lacks)))
    return ordered_table(_merged(pieces, scheme_text))


def _variants(bindings, condition, term):
    """Resolved terms, each with the part of the condition at which it is the one."""
    if term[0] == "letter":
        heads = bindings.pieces(condition, term[1])
    elif term[0] in ROWED:
        heads = bindings.row_pieces(condition, term)
    else:
        return _part_variants(bindings, condition, term)
    found = []
    for part, head in heads:
        if term[0] == "letter" and head[0] in ROWED:
            found.extend(_variants(bindings, part, head))
        else:
            found.extend(_part_variants(bindings, part, head))
    return _merged(found, term_text) if len(heads) > 1 else found


def _part_variants(bindings, condition, term):
    """As `_variants`, where the term itself is no bound letter and has no bound tail."""
    ways = [(condition, ())]
    for part in term_parts(term):
        longer = []
        for place, done in ways:
            for inner, variant in _variants(bindings, place, part):
                longer.append((inner, (*done, variant)))
        ways = longer
    return [(place, with_parts(term, done)) for place, done in ways]


def _lack_ways(bindings, condition, term):
    """What the row letters of a resolved term lack, under parts of the condition."""
    ways = [(condition, {})]
    for tail in row_letters_in(term):
        longer = []
        for place, lacks in ways:
            for inner, labels in _label_ways(place, bindings.lacked[tail]):
                longer.append((inner, {**lacks, tail: labels}))
        ways = longer
    return ways


def _label_ways(condition, lacked):
    ways = [(condition, ())]
    for label in sorted(lacked):
        longer = []
        for place, labels in ways:
            longer.append((both(place, lacked[label]), (*labels, label)))
            longer.append((but_not(place, lacked[label]), labels))
        ways = [way for way in longer if way[0] is not False]
    return ways


def _merged(pieces, text_of):
    """The pieces with those of equal values made one; texts find them fast."""
    places = {}
    values = {}
    for condition, value in pieces:
        text = text_of(value)
        places[text] = either(places.get(text, False), condition)
        values.setdefault(text, value)
    return [(places[text], values[text]) for text in places]
