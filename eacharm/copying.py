"""Copies of terms in which some letters are made new."""

from eacharm.bindings import joined_pieces, joined_row
from eacharm.conditions import both, but_not, implies, no
from eacharm.terms import ROWED, term_parts, with_parts


def fresh_letters(bindings, gens):
    """A new letter for each key of `gens`; where its condition fails it is the old one."""
    fresh = {}
    for letter in gens:
        condition = gens[letter]
        if letter in bindings.lacked:
            made = bindings.new_row()
            bindings.lead_lacks(condition, letter, made)
            old = ("row", (), letter)
        else:
            made = bindings.new_letter()
            old = ("letter", letter)
        if bindings.lives(no(condition)):
            bindings.bind(no(condition), made, old)
        fresh[letter] = made
    return fresh


class Copier:
    """Makes one copy of a term, part by part."""

    def __init__(self, bindings, gens, fresh):
        self.bindings = bindings
        self.gens = gens
        self.fresh = fresh
        self.made = {}

    def copied(self, condition, term):
        """The copy of a term under a condition that holds at a living setting."""
        if term[0] == "letter":
            return self._letter_copy(condition, term[1])
        parts = []
        for part in term_parts(term):
            parts.append(self.copied(condition, part))
        copy = with_parts(term, parts)
        if copy[0] in ROWED and copy[2] is not None:
            return joined_row(copy, self._tail_copy(condition, copy[2]))
        return copy

    def _letter_copy(self, condition, letter):
        known = self._known_copy(condition, letter)
        if known is not None:
            return known
        heads = self.bindings.pieces(condition, letter)
        pieces = []
        for part, head in heads:
            if head[0] == "letter":
                for place, new in self._renewed(part, head[1]):
                    pieces.append((place, ("letter", new)))
            else:
                pieces.append((part, self.copied(part, head)))
        if pieces == heads:
            return self._keep(condition, letter, ("letter", letter))
        pieces = joined_pieces(pieces)
        if len(pieces) == 1:
            return self._keep(condition, letter, pieces[0][1])
        new = self.bindings.new_letter()
        return self._bind_all(condition, letter, pieces, ("letter", new), new)

    def _tail_copy(self, condition, tail):
        """The row that comes in the place of a tail."""
        known = self._known_copy(condition, tail)
        if known is not None:
            return known
        own = ("row", (), tail)
        heads = self.bindings.row_pieces(condition, own)
        pieces = []
        for part, row in heads:
            fields = self.copied(part, ("row", row[1], None))[1]
            for place, new in self._renewed(part, row[2]):
                pieces.append((place, ("row", fields, new)))
        if pieces == heads:
            return self._keep(condition, tail, own)
        pieces = joined_pieces(pieces)
        if len(pieces) == 1:
            return self._keep(condition, tail, pieces[0][1])
        new = self.bindings.new_row()
        return self._bind_all(condition, tail, pieces, ("row", (), new), new)

    def _renewed(self, condition, letter):
        """The letters in the place of an unbound one, each with its condition."""
        general = self.gens.get(letter, False)
        old = but_not(condition, general)
        if not self.bindings.lives(both(condition, general)):
            return [(condition, letter)]
        if not self.bindings.lives(old):
            return [(condition, self.fresh[letter])]
        return [(both(condition, general), self.fresh[letter]), (old, letter)]

    def _known_copy(self, condition, letter):
        for place, copy in self.made.get(letter, ()):
            if implies(condition, place):
                return copy
        return None

    def _keep(self, condition, letter, copy):
        self.made.setdefault(letter, []).append((condition, copy))
        return copy

    def _bind_all(self, condition, letter, pieces, copy, new):
        """Keeps as the copy of a letter a new one that is bound to each piece."""
        for part, target in pieces:
            self.bindings.bind(part, new, target)
        return self._keep(condition, letter, copy)
