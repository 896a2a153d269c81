"""A store without switches, written plainly: what the store must tell at one setting."""

from eacharm.terms import letters_in, scheme_of


class Clash(Exception):
    """Two terms cannot be equal."""


class PlainStore:
    """Letters are bound in a dict; every step resolves its terms whole."""

    def __init__(self):
        self.living = True
        self.many = 0
        self.bound = {}
        self.lacked = {}

    def new_letter(self):
        self.many += 1
        return self.many - 1

    def new_row(self, labels=()):
        letter = self.new_letter()
        self.lacked[letter] = set(labels)
        return letter

    def unify(self, left, right):
        self._demand(lambda: self._unify(left, right))

    def lack(self, tail, labels):
        self._demand(lambda: self._lack(tail, labels))

    def resolved(self, term):
        word = term[0]
        if word == "letter":
            return self.resolved(self.bound[term[1]]) if term[1] in self.bound else term
        if word == "arrow":
            return ("arrow", self.resolved(term[1]), self.resolved(term[2]))
        if word == "cell":
            return ("cell", self.resolved(term[1]))
        if word == "tuple":
            return ("tuple", tuple(self.resolved(part) for part in term[1]))
        if word == "data":
            return ("data", term[1], tuple(self.resolved(part) for part in term[2]))
        if word in ("record", "variant", "row"):
            fields = {label: self.resolved(part) for label, part in term[1]}
            tail = term[2]
            while tail in self.bound:
                row = self.bound[tail]
                fields.update({label: self.resolved(part) for label, part in row[1]})
                tail = row[2]
            return (word, tuple(sorted(fields.items())), tail)
        return term

    def lacks(self, term):
        return {tail: tuple(self.lacked[tail]) for tail in letters_in(term) if tail in self.lacked}

    def scheme(self, term):
        term = self.resolved(term)
        return scheme_of(term, self.lacks(term))

    def _demand(self, step):
        if self.living:
            try:
                step()
            except Clash:
                self.living = False

    def _lack(self, tail, labels):
        _, fields, last = self.resolved(("row", (), tail))
        if set(labels) & {label for label, _ in fields}:
            raise Clash()
        if last is not None:
            self.lacked[last].update(labels)

    def _unify(self, left, right):
        left, right = self.resolved(left), self.resolved(right)
        if left == right:
            return
        if right[0] == "letter" and left[0] != "letter":
            left, right = right, left
        if left[0] == "letter":
            self._bind(left[1], right, right)
        elif left[0] != right[0]:
            raise Clash()
        elif left[0] in ("record", "variant", "row"):
            self._unify_rows(left, right)
        else:
            self._unify_parts(left, right)

    def _unify_parts(self, left, right):
        word = left[0]
        if word == "data" and left[1] != right[1]:
            raise Clash()
        if word in ("hidden", "stone"):
            raise Clash()
        pairs = left[1:], right[1:]
        if word == "tuple":
            pairs = left[1], right[1]
        if word == "data":
            pairs = left[2], right[2]
        if len(pairs[0]) != len(pairs[1]):
            raise Clash()
        for one, other in zip(*pairs):
            self._unify(one, other)

    def _unify_rows(self, left, right):
        mine, yours = dict(left[1]), dict(right[1])
        for label in set(mine) & set(yours):
            self._unify(mine[label], yours[label])
        less = tuple(sorted((k, mine[k]) for k in set(mine) - set(yours)))
        more = tuple(sorted((k, yours[k]) for k in set(yours) - set(mine)))
        # The fields that both have may have bound the tails.
        left, right = self.resolved(("row", less, left[2])), self.resolved(("row", more, right[2]))
        if (less, more) != (left[1], right[1]) and {k for k, _ in left[1]} & {k for k, _ in right[1]}:
            return self._unify_rows(left, right)
        (_, less, one), (_, more, other) = left, right
        if one == other:
            if less or more:
                raise Clash()
        elif less and more:
            if one is None or other is None:
                raise Clash()
            rest = self.new_row()
            self._bind_row(one, ("row", more, rest))
            self._bind_row(other, ("row", less, rest))
        elif one is None or (other is not None and less):
            if more:
                raise Clash()
            self._bind_row(other, ("row", less, one))
        else:
            if less:
                raise Clash()
            self._bind_row(one, ("row", more, other))

    def _bind(self, letter, target, inside):
        if letter in letters_in(self.resolved(inside)):
            raise Clash()
        self.bound[letter] = target

    def _bind_row(self, tail, row):
        if self.lacked[tail] & {label for label, _ in row[1]}:
            raise Clash()
        self._bind(tail, row, ("row", row[1], None))
        if row[2] is not None:
            self.lacked[row[2]].update(self.lacked[tail])
