"""What the letters of a store are bound to, and what row letters lack.

Each binding stands under a condition. A letter is bound to a term, a row
letter to a row; an alias is a binding to a letter or to a row without fields.
All conditions here are exact at living settings only: what they say of others
is chosen so that they stay small. At no living setting does following the
bindings come back to a letter, so every walk along them ends.
"""

from eacharm.conditions import both, but_not, either, holds, meet
from eacharm.terms import ROWED, term_parts


class Bindings:
    """The letters of one store."""

    def __init__(self, living):
        self.living = living
        self.bound = []
        self.lacked = {}

    def new_letter(self):
        """A letter that is bound nowhere."""
        self.bound.append([])
        return len(self.bound) - 1

    def new_row(self, condition=True, labels=()):
        """A row letter that is bound nowhere and lacks the labels under the condition."""
        letter = self.new_letter()
        self.lacked[letter] = {label: condition for label in labels}
        return letter

    def bind(self, condition, letter, target):
        """Adds a binding at settings where the letter has none."""
        _add_piece(self.bound[letter], condition, target)

    def add_lack(self, condition, tail, label):
        """Notes at settings where the row letter is unbound that it lacks a label."""
        known = self.lacked[tail]
        known[label] = either(known.get(label, False), condition)

    def lead_lacks(self, condition, tail, other):
        """Lets another row letter lack what a row letter lacks under the condition."""
        for label, place in list(self.lacked[tail].items()):
            if self.lives(both(condition, place)):
                self.add_lack(both(condition, place), other, label)

    def fail(self, condition):
        """Takes the settings of the condition out of the living ones."""
        self.living = but_not(self.living, condition)

    def lives(self, condition):
        """Tells whether the condition holds at a living setting."""
        return meet(condition, self.living)

    def pieces(self, condition, letter):
        """What a letter comes to: pairs of a condition and a term, itself where unbound."""
        parts, rest = self._split(condition, self._settled(letter))
        return parts if rest is False else [*parts, (rest, ("letter", letter))]

    def row_pieces(self, condition, row):
        """What a row comes to: rows whose tails are unbound, in the place of aliases."""
        if row[2] is None or not self.bound[row[2]]:
            return [(condition, row)]
        parts, rest = self._split(condition, self._settled_row(row[2]))
        found = [(part, joined_row(row, more)) for part, more in parts]
        return found if rest is False else [*found, (rest, row)]

    def reach(self, condition, term):
        """The condition under which each unbound letter stands in the resolved term."""
        found = {}
        seen = {}
        work = [(condition, term)]
        while work:
            part, inner = work.pop()
            work.extend([(part, below) for below in term_parts(inner)])
            letter = _own_letter(inner)
            if letter is not None:
                known = seen.get(letter, False)
                seen[letter] = either(known, part)
                parts, rest = self._split(but_not(part, known), self.bound[letter])
                work.extend(parts)
                if self.lives(rest):
                    found[letter] = either(found.get(letter, False), rest)
        return {letter: both(found[letter], self.living) for letter in found}

    def head_at(self, setting, letter):
        """What a letter comes to at one setting, in the place of aliases."""
        term = ("letter", letter)
        while term is not None:
            head = term
            term = self._target_at(setting, head[1]) if head[0] == "letter" else None
        return head

    def row_at(self, setting, row):
        """What a row comes to at one setting."""
        rest = self._target_at(setting, row[2])
        while rest is not None:
            row = joined_row(row, rest)
            rest = self._target_at(setting, row[2])
        return row

    def lacks_at(self, setting, tail):
        """The labels that an unbound row letter lacks at a setting, ascending."""
        known = self.lacked[tail]
        return tuple(sorted([label for label in known if holds(known[label], setting)]))

    def _target_at(self, setting, letter):
        if letter is None:
            return None
        for condition, target in self.bound[letter]:
            if holds(condition, setting):
                return target
        return None

    def _split(self, condition, pieces):
        """The pieces under a condition, and the condition that none holds there."""
        parts = []
        for place, target in pieces:
            part = both(condition, place)
            if self.lives(part):
                rest = but_not(condition, place)
                if not self.lives(rest):
                    return [*parts, (condition, target)], False
                parts.append((part, target))
                condition = rest
        return parts, condition

    def _settled(self, letter):
        """The bindings of a letter, with every alias led on to its end and kept so."""
        done = []
        work = list(self.bound[letter])
        moved = False
        while work:
            condition, target = work.pop()
            if target[0] == "letter":
                parts, condition = self._split(condition, self.bound[target[1]])
                moved = moved or len(parts) > 0
                work.extend(parts)
            if condition is not False:
                done.append((condition, target))
        if moved:
            self.bound[letter] = joined_pieces(done)
        return self.bound[letter]

    def _settled_row(self, tail):
        """As `_settled`, where a row is led on at its tail."""
        done = []
        work = list(self.bound[tail])
        moved = False
        while work:
            condition, row = work.pop()
            if row[2] is not None:
                parts, condition = self._split(condition, self.bound[row[2]])
                moved = moved or len(parts) > 0
                work.extend([(part, joined_row(row, more)) for part, more in parts])
            if condition is not False:
                done.append((condition, row))
        if moved:
            self.bound[tail] = joined_pieces(done)
        return self.bound[tail]


def joined_row(row, rest):
    """The row with another row in the place of its tail."""
    if not rest[1]:
        return (row[0], row[1], rest[2])
    fields = sorted([*row[1], *rest[1]], key=lambda field: field[0])
    return (row[0], tuple(fields), rest[2])


def _own_letter(term):
    """The letter that a term is, or the tail of a row."""
    if term[0] == "letter":
        return term[1]
    return term[2] if term[0] in ROWED else None


def joined_pieces(pieces):
    """The pieces with those of equal targets made one."""
    joined = []
    for condition, target in pieces:
        _add_piece(joined, condition, target)
    return joined


def _add_piece(joined, condition, target):
    same = [at for at, piece in enumerate(joined) if piece[1] == target]
    if same:
        condition = either(joined.pop(same[0])[0], condition)
    joined.append((condition, target))
