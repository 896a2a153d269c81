"""What the letters of a store are bound to, and what row letters lack.

Each binding stands under a mask. A letter is bound to a term, a row letter to
a row; an alias is a binding to a letter or to a row without fields. At no
setting does following the bindings come back to a letter, so every walk along
them ends. What happens at settings that are not living is never looked at.
"""

from eacharm.masks import Masks, doubled
from eacharm.terms import ROWED, letters_in


class Bindings:
    """The letters of one store; its masks stand for settings of its switches."""

    def __init__(self, living):
        self.masks = Masks()
        self.living = 1
        self.bound = []
        self.lacked = {}
        self.living = self.mask_for(living)

    def mask_for(self, condition):
        """The mask of a condition, of its living settings alone."""
        self.admit(condition)
        return self.masks.mask_of(condition) & self.living

    def admit(self, condition):
        """Makes the switches of a condition known."""
        for switch in self.masks.new_switches(condition):
            step = self.masks.add_switch(switch)
            self.living = doubled(self.living, step)
            self.bound = [
                [(doubled(mask, step), target) for mask, target in pieces] for pieces in self.bound
            ]
            for lacked in list(self.lacked.values()):
                for label in list(lacked):
                    lacked[label] = doubled(lacked[label], step)

    def new_letter(self):
        """A letter that is bound nowhere."""
        self.bound.append([])
        return len(self.bound) - 1

    def new_row(self):
        """A row letter that is bound nowhere and lacks nothing."""
        letter = self.new_letter()
        self.lacked[letter] = {}
        return letter

    def letter_like(self, letter):
        """A new letter or row letter, as the letter is."""
        return self.new_row() if letter in self.lacked else self.new_letter()

    def own_term(self, letter):
        """What an alias of a letter or row letter is bound to."""
        return ("row", (), letter) if letter in self.lacked else ("letter", letter)

    def fail(self, mask):
        """Takes settings out of the living ones."""
        self.living &= ~mask

    def bind(self, mask, letter, target):
        """Adds a binding at settings where the letter has none."""
        _add_piece(self.bound[letter], mask, target)

    def add_lack(self, mask, tail, label):
        """Notes at settings where the row letter is unbound that it lacks a label."""
        known = self.lacked[tail]
        known[label] = known.get(label, 0) | mask

    def lead_lacks(self, mask, tail, other):
        """Lets another row letter lack at some settings what a row letter lacks."""
        for label, place in list(self.lacked[tail].items()):
            if mask & place:
                self.add_lack(mask & place, other, label)

    def bound_pieces(self, mask, letter):
        """What a letter is bound to: pairs of a mask and a term, and the mask where unbound."""
        return split_pieces(mask, self._settled(letter))

    def pieces(self, mask, letter):
        """What a letter comes to: pairs of a mask and a term, itself where unbound."""
        parts, rest = self.bound_pieces(mask, letter)
        return [*parts, (rest, ("letter", letter))] if rest else parts

    def row_pieces(self, mask, row):
        """What a row comes to: rows whose tails are unbound, in the place of aliases."""
        if row[2] is None or not self.bound[row[2]]:
            return [(mask, row)]
        parts, rest = self.bound_pieces(mask, row[2])
        found = [(part, joined_row(row, more)) for part, more in parts]
        return [*found, (rest, row)] if rest else found

    def heads(self, mask, term):
        """What a term comes to: no bound letters, and no rows with bound tails."""
        found = self.pieces(mask, term[1]) if term[0] == "letter" else [(mask, term)]
        heads = []
        for part, head in found:
            if head[0] in ROWED:
                heads.extend(self.row_pieces(part, head))
            else:
                heads.append((part, head))
        return heads

    def reach(self, mask, term):
        """The mask under which each unbound letter stands in the resolved term."""
        found = {}
        seen = self.standing(mask, term)
        for letter in seen:
            _, rest = self.bound_pieces(seen[letter], letter)
            if rest:
                found[letter] = rest
        return found

    def standing(self, mask, term):
        """The mask under which each letter, bound or not, is come to from a term."""
        seen = {}
        level = {letter: mask for letter in letters_in(term)}
        while level:
            below = {}
            for letter in list(level):
                fresh = level[letter] & ~seen.get(letter, 0)
                seen[letter] = seen.get(letter, 0) | fresh
                parts, _ = self.bound_pieces(fresh, letter)
                for part, target in parts:
                    for inner in letters_in(target):
                        below[inner] = below.get(inner, 0) | part
            level = below
        return seen

    def head_at(self, bit, letter):
        """What a letter comes to at one setting, in the place of aliases."""
        term = ("letter", letter)
        while term is not None:
            head = term
            term = self._target_at(bit, head[1]) if head[0] == "letter" else None
        return head

    def row_at(self, bit, row):
        """What a row comes to at one setting."""
        rest = self._target_at(bit, row[2])
        while rest is not None:
            row = joined_row(row, rest)
            rest = self._target_at(bit, row[2])
        return row

    def lacks_at(self, bit, tail):
        """The labels that an unbound row letter lacks at a setting, ascending."""
        known = self.lacked[tail]
        return tuple(sorted([label for label in known if known[label] & bit]))

    def _target_at(self, bit, letter):
        if letter is None:
            return None
        for mask, target in self.bound[letter]:
            if mask & bit:
                return target
        return None

    def _settled(self, letter):
        """The bindings of a letter, with every alias led on to its end and kept so."""
        done = []
        work = list(self.bound[letter])
        moved = False
        while work:
            mask, target = work.pop()
            last = _last_letter(target)
            if last is not None:
                parts, mask = split_pieces(mask, self.bound[last])
                moved = moved or len(parts) > 0
                work.extend([(part, _led_on(target, more)) for part, more in parts])
            if mask:
                done.append((mask, target))
        if moved:
            self.bound[letter] = joined_pieces(done)
        return self.bound[letter]


def joined_row(row, rest):
    """The row with another row in the place of its tail."""
    if not rest[1]:
        return (row[0], row[1], rest[2])
    fields = sorted([*row[1], *rest[1]], key=lambda field: field[0])
    return (row[0], tuple(fields), rest[2])


def _last_letter(target):
    """The letter that an alias leads to, or the tail of a row."""
    if target[0] == "letter":
        return target[1]
    return target[2] if target[0] == "row" else None


def _led_on(target, more):
    """What a target comes to where its last letter is bound."""
    return joined_row(target, more) if target[0] == "row" else more


def split_pieces(mask, pieces):
    """The pieces narrowed to a mask, and the mask that none holds there."""
    parts = []
    for place, target in pieces:
        part = mask & place
        if part:
            parts.append((part, target))
            mask &= ~place
    return parts, mask


def joined_pieces(pieces):
    """The pieces with those of equal targets made one."""
    joined = []
    for mask, target in pieces:
        _add_piece(joined, mask, target)
    return joined


def _add_piece(joined, mask, target):
    same = [at for at, piece in enumerate(joined) if piece[1] == target]
    if same:
        mask |= joined.pop(same[0])[0]
    joined.append((mask, target))
