"""Copies of terms in which some letters are made new."""

from eacharm.bindings import joined_pieces, joined_row
from eacharm.terms import ROWED, term_parts, with_parts


class Copier:
    """Makes one copy of a term; `fresh` has the new letter of each general one."""

    def __init__(self, bindings, general):
        self.bindings = bindings
        self.general = general
        self.fresh = {letter: self._new_letter(letter) for letter in general}
        self.made = {}

    def copied(self, mask, term):
        """The copy of a term at the settings of a mask that is not empty."""
        if term[0] == "letter":
            return self._own_copy(mask, term, term[1])
        parts = []
        for part in term_parts(term):
            parts.append(self.copied(mask, part))
        copy = with_parts(term, parts)
        if copy[0] in ROWED and copy[2] is not None:
            return joined_row(copy, self._own_copy(mask, ("row", (), copy[2]), copy[2]))
        return copy

    def _new_letter(self, letter):
        """A new letter; where the old one is not general, it is bound to it."""
        bindings = self.bindings
        mask = self.general[letter]
        elsewhere = bindings.living & ~mask
        if letter in bindings.lacked:
            new, old = bindings.new_row(), ("row", (), letter)
            bindings.lead_lacks(mask, letter, new)
        else:
            new, old = bindings.new_letter(), ("letter", letter)
        if elsewhere:
            bindings.bind(elsewhere, new, old)
        return new

    def _own_copy(self, mask, own, letter):
        """The copy of a letter, or of the row that a tail stands for."""
        known = self._known_copy(mask, letter)
        if known is not None:
            return known
        bindings = self.bindings
        heads = bindings.row_pieces(mask, own) if own[0] == "row" else bindings.pieces(mask, letter)
        pieces = []
        for part, head in heads:
            if head[0] == "letter":
                copy = ("letter", self._renewed(part, head[1]))
            elif head[0] == "row":
                fields = self.copied(part, ("row", head[1], None))[1]
                copy = ("row", fields, self._renewed(part, head[2]))
            else:
                copy = self.copied(part, head)
            pieces.append((part, copy))
        copy = own if pieces == heads else self._joined_copy(own, joined_pieces(pieces))
        self.made.setdefault(letter, []).append((mask, copy))
        return copy

    def _known_copy(self, mask, letter):
        for place, copy in self.made.get(letter, ()):
            if not mask & ~place:
                return copy
        return None

    def _renewed(self, mask, letter):
        """The letter in the place of an unbound one or of no tail.

        Where the old one is not general, the new one is bound to it, so the new
        one is right at the whole mask if it is so at some settings of it.
        """
        return self.fresh[letter] if mask & self.general.get(letter, 0) else letter

    def _joined_copy(self, own, pieces):
        """The one copy, or a new letter that is bound to each of several."""
        if len(pieces) == 1:
            return pieces[0][1]
        is_row = own[0] == "row"
        new = self.bindings.new_row() if is_row else self.bindings.new_letter()
        for part, target in pieces:
            self.bindings.bind(part, new, target)
        return ("row", (), new) if is_row else ("letter", new)
