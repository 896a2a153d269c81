"""Deriving: what follows from given claims, until something clashes (12.8).

Terms are known by numbers. Equal terms lie in one class. A step joins two
classes or tells a field of a row letter, and keeps its reason: ("given", place,
claim), ("part", a, b, k), ("field", a, b, label, j, k) or ("moved", a, b, label,
j), where a and b are terms of one class, and j and k are steps that tell fields
of their tails, or None for fields of their own. The steps that join classes
link the terms of a class as a tree, so between two equal terms there is one way
of steps, and all of them are older than what follows from their being equal.
"""

from eacharm.terms import ROWED, same_head, term_parts


class TermClass:
    """A class of equal terms.

    `head` is one of them that is no letter, or None; `rows` are those with
    fields; `labels` has for each label of theirs one of them and the step that
    tells the field of its tail, or None.
    """

    def __init__(self, number, term):
        self.size = 1
        self.head = None if term[0] == "letter" else number
        self.rows = [number] if term[0] in ROWED else []
        self.labels = {label: (number, None) for label, _ in term[1]} if self.rows else {}


class Deriving:
    """Terms, their classes and the steps so far.

    `links` has for each term the next one on the way to the top of its tree and
    the step between them. A step is ("same", a, b, None, reason) or ("has", tail,
    label, field, reason). `clash` is None or tells what clashes: ("heads", a,
    b), ("missing", a, b, label, j), ("lacked", step) or ("loop", edges).
    """

    def __init__(self, given):
        self.terms = []
        self.parts = []
        self.numbers = {}
        self.roots = []
        self.links = []
        self.classes = []
        self.tails = {}
        self.steps = []
        self.facts = {}
        self.lacked = {}
        self.queue = []
        self.clash = None
        for place, claim in given:
            self._take(place, claim)
        self._derive()

    def _take(self, place, claim):
        if claim[0] == "lacks":
            self.lacked.setdefault((claim[1], claim[2]), (place, claim))
        else:
            _, left, right = claim
            self._queue_same(self._number(left), self._number(right), ("given", place, claim))

    def _derive(self):
        done = 0
        while done < len(self.queue) and self.clash is None:
            word, a, b, detail = self.queue[done]
            done += 1
            if word == "same":
                self._join(a, b, detail)
            else:
                self._spread(a, b, *detail)
        if self.clash is None:
            self.clash = loop_of(self)

    def _number(self, term):
        """The number of a term; its parts have numbers too."""
        parts = tuple([self._number(part) for part in term_parts(term)])
        key = _key(term, parts)
        if key not in self.numbers:
            number = len(self.terms)
            self.numbers[key] = number
            self.terms.append(term)
            self.parts.append(parts)
            self.roots.append(number)
            self.links.append(None)
            self.classes.append(TermClass(number, term))
            if term[0] in ROWED and term[2] is not None:
                self.tails.setdefault(term[2], []).append(number)
        return self.numbers[key]

    def root(self, number):
        """The number by which the class of a term is known."""
        while self.roots[number] != number:
            self.roots[number] = self.roots[self.roots[number]]
            number = self.roots[number]
        return number

    def field(self, number, label, fact):
        """The field of a term, its own one or the one that a step tells of its tail."""
        if fact is not None:
            return self.steps[fact][3]
        labels = [own for own, _ in self.terms[number][1]]
        return self.parts[number][labels.index(label)]

    def _queue_same(self, a, b, reason):
        self.queue.append(("same", a, b, reason))

    def _queue_field(self, a, b, label, facts):
        """Two equal terms have a label, so its fields are equal."""
        first, second = self.field(a, label, facts[0]), self.field(b, label, facts[1])
        self._queue_same(first, second, ("field", a, b, label, *facts))

    def _join(self, a, b, reason):
        first, second = self.root(a), self.root(b)
        if first == second:
            return
        if self.classes[first].size < self.classes[second].size:
            first, second = second, first
            self._hang(a, b)
        else:
            self._hang(b, a)
        self.steps.append(("same", a, b, None, reason))
        self.roots[second] = first
        self._join_classes(self.classes[first], self.classes[second])

    def _hang(self, low, high):
        """Turns the tree of a term so that the term is its top, and hangs it under another one."""
        step = len(self.steps)
        while low is not None:
            link = self.links[low]
            self.links[low] = (high, step)
            high = low
            low, step = link if link is not None else (None, None)

    def _join_classes(self, group, other):
        group.size += other.size
        if group.head is not None and other.head is not None:
            self._match(group.head, other.head)
        for label in group.labels:
            number, fact = group.labels[label]
            if label in other.labels:
                number_there, fact_there = other.labels[label]
                self._queue_field(number, number_there, label, (fact, fact_there))
            else:
                self._queue_spread(number, fact, other.rows, label)
        for label in other.labels:
            if label not in group.labels:
                number, fact = other.labels[label]
                self._queue_spread(number, fact, group.rows, label)
        if group.head is None:
            group.head = other.head
        group.rows.extend(other.rows)
        group.labels = {**other.labels, **group.labels}

    def _match(self, a, b):
        """Two equal terms that are no letters have the same head and equal parts."""
        left, right = self.terms[a], self.terms[b]
        if left[0] in ROWED and left[0] == right[0]:
            return
        if not same_head(left, right):
            self.clash = ("heads", a, b)
        for k, (part, other) in enumerate(zip(self.parts[a], self.parts[b])):
            self._queue_same(part, other, ("part", a, b, k))

    def _queue_spread(self, number, fact, rows, label):
        """Other rows of a class have the label of one of them."""
        for other in rows:
            if other != number:
                self.queue.append(("spread", number, other, (label, fact)))

    def _spread(self, a, b, label, fact):
        row = self.terms[b]
        if label in [own for own, _ in row[1]]:
            self._queue_field(a, b, label, (fact, None))
        elif row[2] is None:
            self.clash = ("missing", a, b, label, fact)
        elif (row[2], label) in self.facts:
            self._queue_field(a, b, label, (fact, self.facts[(row[2], label)]))
        else:
            self._tell(row[2], label, self.field(a, label, fact), ("moved", a, b, label, fact))

    def _tell(self, tail, label, field, reason):
        """Notes a field of a row letter, for all rows with this tail."""
        step = len(self.steps)
        self.steps.append(("has", tail, label, field, reason))
        self.facts[(tail, label)] = step
        if (tail, label) in self.lacked:
            self.clash = ("lacked", step)
            return
        for row in list(self.tails[tail]):
            group = self.classes[self.root(row)]
            if label in group.labels:
                number, fact = group.labels[label]
                self._queue_field(number, row, label, (fact, step))
            else:
                group.labels[label] = (row, step)
                self._queue_spread(row, step, group.rows, label)


def loop_of(derived):
    """A loop of terms that contain one another, as a clash, or None.

    An edge is a triple (a, b, j): the term b is directly inside of a, or the
    field that the step j tells of a's tail.
    """
    done = {}
    for number in range(len(derived.terms)):
        root = derived.root(number)
        if root not in done:
            edges = _loop_from(derived, root, done)
            if edges is not None:
                return ("loop", edges)
    return None


def _loop_from(derived, root, done):
    """The edges of a loop that is come to from a class, or None."""
    path = [root]
    places = {root: 0}
    ways = [_edges(derived, root)]
    taken = []
    while path:
        if not ways[-1]:
            ways.pop()
            last = path.pop()
            del places[last]
            done[last] = True
            if taken:
                taken.pop()
            continue
        edge = ways[-1].pop()
        target = derived.root(edge[1])
        if target in places:
            return [*taken[places[target]:], edge]
        if target not in done:
            places[target] = len(path)
            path.append(target)
            ways.append(_edges(derived, target))
            taken.append(edge)
    return None


def _edges(derived, root):
    group = derived.classes[root]
    if group.head is None:
        return []
    if group.rows:
        edges = []
        for label in group.labels:
            number, fact = group.labels[label]
            edges.append((number, derived.field(number, label, fact), fact))
        return edges
    return [(group.head, part, None) for part in derived.parts[group.head]]


def _key(term, parts):
    """The key of a term, which is flat where its parts are known by numbers."""
    if term[0] in ROWED:
        return (term[0], tuple([label for label, _ in term[1]]), parts, term[2])
    if term[0] == "data":
        return (term[0], term[1], parts)
    return (term[0], parts) if parts else term
