"""Equations: making two terms equal at the settings of a mask."""

from eacharm.terms import ROWED, same_head, term_parts


class Equations:
    """The equations that follow from one demand; where they fail nothing lives on."""

    def __init__(self, bindings):
        self.bindings = bindings
        self.work = []
        self.done = {}

    def solve(self, mask, left, right):
        """Binds letters so that both sides are equal wherever they can be."""
        self.work.append((mask, left, right))
        while self.work:
            part, first, second = self.work.pop()
            part = self._not_done(part & self.bindings.living, first, second)
            if part and first != second:
                for place, head in self.bindings.heads(part, first):
                    for inner, other in self.bindings.heads(place, second):
                        self._match(inner, head, other)

    def lack(self, mask, tail, labels):
        """Lets a row letter lack labels wherever it can."""
        for part, (_, fields, last) in self.bindings.row_pieces(mask, ("row", (), tail)):
            if any([label in labels for label, _ in fields]):
                self.bindings.fail(part)
            elif last is not None:
                for label in labels:
                    self.bindings.add_lack(part, last, label)

    def _not_done(self, mask, left, right):
        """What is left of a mask under which two letters are to be equal."""
        if left[0] != "letter" or right[0] != "letter":
            return mask
        pair = (left[1], right[1])
        known = self.done.get(pair, 0)
        self.done[pair] = known | mask
        return mask & ~known

    def _match(self, mask, left, right):
        """Takes the demand apart where no letter of either side is bound."""
        if left == right:
            return
        if left[0] == "letter" and right[0] == "letter":
            # The older letter represents both, so that equal aliases can be joined.
            low, high = sorted((left[1], right[1]))
            self.bindings.bind(mask, high, ("letter", low))
        elif left[0] == "letter":
            self._bind_letter(mask, left[1], right)
        elif right[0] == "letter":
            self._bind_letter(mask, right[1], left)
        elif left[0] in ROWED and left[0] == right[0]:
            self._match_rows(mask, left, right)
        elif not same_head(left, right):
            self.bindings.fail(mask)
        else:
            for part, other in zip(term_parts(left), term_parts(right)):
                self.work.append((mask, part, other))

    def _match_rows(self, mask, left, right):
        known = dict(left[1])
        for label, field in right[1]:
            if label in known:
                self.work.append((mask, known[label], field))
        shared = [label for label, _ in right[1] if label in known]
        more = tuple([pair for pair in right[1] if pair[0] not in shared])
        less = tuple([pair for pair in left[1] if pair[0] not in shared])
        if (left[2] is None and more) or (right[2] is None and less):
            self.bindings.fail(mask)
        elif left[2] == right[2]:
            if more or less:
                self.bindings.fail(mask)
        else:
            self._join_tails(mask, ("row", less, left[2]), ("row", more, right[2]))

    def _join_tails(self, mask, left, right):
        """Makes two rows equal that have no label in common and unlike tails."""
        if left[1] and right[1]:
            rest = self.bindings.new_row()
            mask = self._bind_row(mask, left[2], ("row", right[1], rest))
            self._bind_row(mask, right[2], ("row", left[1], rest))
        elif left[2] is None or left[1]:
            self._bind_row(mask, right[2], left)
        elif right[2] is None or right[1] or left[2] > right[2]:
            self._bind_row(mask, left[2], right)
        else:
            self._bind_row(mask, right[2], left)

    def _bind_letter(self, mask, letter, term):
        mask = self._apart(mask, letter, term)
        if mask:
            self.bindings.bind(mask, letter, term)

    def _bind_row(self, mask, tail, row):
        """Binds a row letter where it can be; returns where that is."""
        mask = self._apart(mask, tail, ("row", row[1], None))
        for label, _ in row[1]:
            refused = mask & self.bindings.lacked[tail].get(label, 0)
            self.bindings.fail(refused)
            mask &= ~refused
        if mask:
            self.bindings.bind(mask, tail, row)
            if row[2] is not None:
                self.bindings.lead_lacks(mask, tail, row[2])
        return mask

    def _apart(self, mask, letter, term):
        """Fails where the letter stands in the term, returns where it does not."""
        looped = self.bindings.reach(mask, term).get(letter, 0)
        self.bindings.fail(looped)
        return mask & ~looped
