"""Copies of terms in which some letters are made new.

Each letter that leads to a new one is copied once, for all the settings at
which it is come to: so a copy is no larger than what it is a copy of.
"""

from eacharm.terms import letters_in, relettered


class Copier:
    """Makes one copy of a term; `fresh` has the new letter of each general one."""

    def __init__(self, bindings, general):
        self.bindings = bindings
        self.fresh = {letter: self._new_letter(letter, general[letter]) for letter in general}

    def copied(self, mask, term):
        """The copy of a term at the settings of a mask that is not empty."""
        seen = self.bindings.standing(mask, term)
        parts = {}
        rests = {}
        for letter in seen:
            parts[letter], rests[letter] = self.bindings.bound_pieces(seen[letter], letter)
        renamed = {}
        for letter in self._changing(parts):
            new = self.bindings.letter_like(letter) if parts[letter] else self.fresh[letter]
            renamed[letter] = new
        for letter in renamed:
            if parts[letter]:
                self._bind_copy(letter, parts[letter], rests[letter], renamed)
        return relettered(term, renamed)

    def _new_letter(self, letter, mask):
        """A new letter; where the old one is not general, it is bound to it."""
        bindings = self.bindings
        elsewhere = bindings.living & ~mask
        new = bindings.letter_like(letter)
        if letter in bindings.lacked:
            bindings.lead_lacks(mask, letter, new)
        if elsewhere:
            bindings.bind(elsewhere, new, bindings.own_term(letter))
        return new

    def _changing(self, parts):
        """The letters that are made new or lead to such ones."""
        users = {}
        for letter in parts:
            for _, target in parts[letter]:
                for inner in letters_in(target):
                    users.setdefault(inner, []).append(letter)
        found = {}
        work = [letter for letter in parts if letter in self.fresh]
        while work:
            letter = work.pop()
            if letter not in found:
                found[letter] = True
                work.extend(users.get(letter, []))
        return list(found)

    def _bind_copy(self, letter, parts, rest, renamed):
        """Binds the copy of a letter as the letter is bound, to copies."""
        bindings = self.bindings
        for part, target in parts:
            bindings.bind(part, renamed[letter], relettered(target, renamed))
        if rest:
            bindings.bind(rest, renamed[letter], bindings.own_term(self.fresh.get(letter, letter)))
