"""Resolved terms and their schemes, at one setting and at many at once."""

from eacharm.tables import ordered_table
from eacharm.terms import (
    ROWED, row_letters_in, scheme_of, scheme_text, term_parts, term_text, with_parts,
)


def resolved(bindings, bit, term, known):
    """The term or row with all bindings of a setting put in.

    `known` keeps what letters come to at this setting, from call to call.
    """
    if term[0] == "letter":
        if term[1] not in known:
            head = bindings.head_at(bit, term[1])
            known[term[1]] = head if head[0] == "letter" else resolved(bindings, bit, head, known)
        return known[term[1]]
    if term[0] in ROWED:
        term = bindings.row_at(bit, term)
    parts = []
    for part in term_parts(term):
        parts.append(resolved(bindings, bit, part, known))
    return with_parts(term, parts)


def resolved_scheme(bindings, bit, term):
    """The scheme of a term at a setting."""
    done = resolved(bindings, bit, term, {})
    lacks = {tail: bindings.lacks_at(bit, tail) for tail in row_letters_in(done)}
    return scheme_of(done, lacks)


def resolved_schemes(bindings, mask, term):
    """The table of the schemes of a term at the settings of a mask."""
    pieces = []
    for part, done in _variants(bindings, mask, term):
        for place, lacks in _lack_ways(bindings, part, done):
            pieces.append((place, scheme_of(done, lacks)))
    joined = _merged(pieces, scheme_text)
    return ordered_table([(bindings.masks.condition_of(part), scheme) for part, scheme in joined])


def _variants(bindings, mask, term):
    """Resolved terms, each with the part of the mask at which it is the one."""
    heads = bindings.heads(mask, term)
    found = []
    for part, head in heads:
        found.extend(_head_variants(bindings, part, head))
    return _merged(found, term_text) if len(heads) > 1 else found


def _head_variants(bindings, mask, head):
    """As `_variants`, of what a term comes to."""
    ways = [(mask, ())]
    for part in term_parts(head):
        longer = []
        for place, done in list(ways):
            for inner, variant in _variants(bindings, place, part):
                longer.append((inner, (*done, variant)))
        ways = longer
    return [(place, with_parts(head, done)) for place, done in ways]


def _lack_ways(bindings, mask, term):
    """What the row letters of a resolved term lack, under parts of the mask."""
    ways = [(mask, {})]
    for tail in row_letters_in(term):
        longer = []
        for place, lacks in list(ways):
            for inner, labels in _label_ways(place, bindings.lacked[tail]):
                longer.append((inner, {**lacks, tail: labels}))
        ways = longer
    return ways


def _label_ways(mask, lacked):
    ways = [(mask, ())]
    for label in sorted(lacked):
        longer = []
        for place, labels in ways:
            longer.append((place & lacked[label], (*labels, label)))
            longer.append((place & ~lacked[label], labels))
        ways = [way for way in longer if way[0]]
    return ways


def _merged(pieces, text_of):
    """The pieces with those of equal values made one; texts find them fast."""
    places = {}
    found = {}
    for mask, value in pieces:
        text = text_of(value)
        places[text] = places.get(text, 0) | mask
        found.setdefault(text, value)
    return [(places[text], found[text]) for text in places]
