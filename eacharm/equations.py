"""Equations: making two terms equal under a condition."""

from eacharm.conditions import both, but_not, either
from eacharm.terms import ROWED, same_head, term_parts


class Equations:
    """The equations that follow from one demand; where they fail nothing lives on."""

    def __init__(self, bindings):
        self.bindings = bindings
        self.work = []
        self.done = {}

    def solve(self, condition, left, right):
        """Binds letters so that both sides are equal wherever they can be."""
        self.work.append((condition, left, right))
        while self.work:
            part, first, second = self.work.pop()
            part = self._not_done(part, first, second)
            if first != second and self.bindings.lives(part):
                for place, head in self._heads(part, first):
                    for inner, other in self._heads(place, second):
                        self._match(inner, head, other)

    def lack(self, condition, tail, labels):
        """Lets a row letter lack labels wherever it can."""
        for part, (_, fields, last) in self.bindings.row_pieces(condition, ("row", (), tail)):
            if any([label in labels for label, _ in fields]):
                self.bindings.fail(part)
            elif last is not None:
                for label in labels:
                    self.bindings.add_lack(part, last, label)

    def _not_done(self, condition, left, right):
        """What is left of the condition under which two letters are to be equal."""
        if left[0] != "letter" or right[0] != "letter":
            return condition
        pair = (left[1], right[1])
        known = self.done.get(pair, False)
        self.done[pair] = either(known, condition)
        return but_not(condition, known)

    def _heads(self, condition, term):
        if term[0] == "letter":
            return self.bindings.pieces(condition, term[1])
        if term[0] in ROWED:
            return self.bindings.row_pieces(condition, term)
        return [(condition, term)]

    def _match(self, condition, left, right):
        """Takes the demand apart where no letter of either side is bound."""
        if left == right:
            return
        if left[0] == "letter" and right[0] == "letter":
            # The older letter represents both, so that chains stay short.
            low, high = sorted((left[1], right[1]))
            self.bindings.bind(condition, high, ("letter", low))
        elif left[0] == "letter":
            self._bind_letter(condition, left[1], right)
        elif right[0] == "letter":
            self._bind_letter(condition, right[1], left)
        elif left[0] in ROWED and left[0] == right[0]:
            self._match_rows(condition, left, right)
        elif left[0] in ROWED or not same_head(left, right):
            self.bindings.fail(condition)
        else:
            for part, other in zip(term_parts(left), term_parts(right)):
                self.work.append((condition, part, other))

    def _match_rows(self, condition, left, right):
        known = dict(left[1])
        for label, field in right[1]:
            if label in known:
                self.work.append((condition, known[label], field))
        shared = [label for label, _ in right[1] if label in known]
        more = tuple([pair for pair in right[1] if pair[0] not in shared])
        less = tuple([pair for pair in left[1] if pair[0] not in shared])
        if (left[2] is None and more) or (right[2] is None and less):
            self.bindings.fail(condition)
        elif left[2] == right[2]:
            if more or less:
                self.bindings.fail(condition)
        else:
            self._join_tails(condition, ("row", less, left[2]), ("row", more, right[2]))

    def _join_tails(self, condition, left, right):
        """Makes two rows equal that have no label in common and unlike tails."""
        if left[1] and right[1]:
            rest = self.bindings.new_row()
            condition = self._bind_row(condition, left[2], ("row", right[1], rest))
            self._bind_row(condition, right[2], ("row", left[1], rest))
        elif left[2] is None or left[1]:
            self._bind_row(condition, right[2], left)
        elif right[2] is None or right[1] or left[2] > right[2]:
            self._bind_row(condition, left[2], right)
        else:
            self._bind_row(condition, right[2], left)

    def _bind_letter(self, condition, letter, term):
        condition = self._apart(condition, letter, term)
        if self.bindings.lives(condition):
            self.bindings.bind(condition, letter, term)

    def _bind_row(self, condition, tail, row):
        """Binds a row letter where it can be; returns where that is."""
        condition = self._apart(condition, tail, ("row", row[1], None))
        labels = [label for label, _ in row[1]]
        for label in labels:
            refused = both(condition, self.bindings.lacked[tail].get(label, False))
            self.bindings.fail(refused)
            condition = but_not(condition, refused)
        if self.bindings.lives(condition):
            self.bindings.bind(condition, tail, row)
            if row[2] is not None:
                self.bindings.lead_lacks(condition, tail, row[2])
        return condition

    def _apart(self, condition, letter, term):
        """Fails where the letter stands in the term, returns where it does not."""
        looped = self.bindings.reach(condition, term).get(letter, False)
        self.bindings.fail(looped)
        return but_not(condition, looped)
