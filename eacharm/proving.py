"""Proving: from the steps that led to a clash to the rows of a paper (12.8)."""

FALSE = ("false",)


class Proving:
    """The rows of a paper so far, and which of them claim what."""

    def __init__(self, derived):
        self.derived = derived
        self.rows = []
        self.of_steps = {}
        self.of_same = {}

    def add_row(self, rule, parts, claim):
        """Adds a row; returns its index."""
        self.rows.append((rule, parts, claim))
        return len(self.rows) - 1

    def same_claim(self, a, b):
        """The claim that two terms are equal."""
        return ("same", self.derived.terms[a], self.derived.terms[b])

    def same_row(self, a, b):
        """The row that claims two terms to be equal."""
        if (a, a) not in self.of_same and a == b:
            self.of_same[(a, a)] = self.add_row("self", (), self.same_claim(a, a))
        done = None
        for step, low, high in way_between(self.derived, a, b):
            if (a, high) not in self.of_same:
                row = self._step_row(step, low, high)
                if done is not None:
                    row = self.add_row("chained", (done, row), self.same_claim(a, high))
                self.of_same[(a, high)] = row
            done = self.of_same[(a, high)]
        return self.of_same[(a, b)]

    def _step_row(self, step, low, high):
        """The row of a step, turned where it is passed the other way round."""
        if self.derived.steps[step][1] == low:
            return self.of_steps[step]
        if (low, high) not in self.of_same:
            parts = (self.of_steps[step],)
            self.of_same[(low, high)] = self.add_row("turned", parts, self.same_claim(low, high))
        return self.of_same[(low, high)]

    def fact_row(self, fact):
        """The row of a step that tells a field, None for a term's own field."""
        return None if fact is None else self.of_steps[fact]

    def add_step(self, step):
        """Adds the row of a step; those of what it rests on are there."""
        word, first, second, field, reason = self.derived.steps[step]
        if reason[0] == "given":
            self.of_steps[step] = self.add_row(*reason)
            return
        rule, a, b, detail, *facts = reason
        parts = [self.same_row(a, b), detail, *[self.fact_row(fact) for fact in facts]]
        if word == "same":
            claim = self.same_claim(first, second)
        else:
            claim = (word, first, second, self.derived.terms[field])
        self.of_steps[step] = self.add_row(rule, tuple(parts), claim)


def paper_of(derived):
    """The paper of a clash."""
    proving = Proving(derived)
    word, *detail = derived.clash
    for step in _needed(derived, _rests_on(derived, derived.clash)):
        proving.add_step(step)
    rule = LAST_ROWS[word]
    parts = rule(proving, *detail)
    proving.add_row(word, parts, FALSE)
    return tuple(proving.rows)


def way_between(derived, a, b):
    """The steps between two equal terms: triples (step, from, to)."""
    places = {a: 0}
    up = []
    at = a
    while derived.links[at] is not None:
        above, step = derived.links[at]
        up.append((step, at, above))
        at = above
        places[at] = len(up)
    down = []
    at = b
    while at not in places:
        above, step = derived.links[at]
        down.append((step, above, at))
        at = above
    return [*up[:places[at]], *down[::-1]]


def _needed(derived, wanted):
    """The steps that are wanted and all that they rest on, the oldest first."""
    needed = {step: True for step in wanted}
    for step in reversed(range(len(derived.steps))):
        if step in needed:
            for older in _rests_on(derived, derived.steps[step][-1]):
                needed[older] = True
    return sorted(needed)


def _rests_on(derived, reason):
    """The steps that a reason or a clash rests on directly."""
    if reason[0] == "given":
        return []
    if reason[0] == "lacked":
        return [reason[1]]
    if reason[0] == "loop":
        found = [fact for _, _, fact in reason[1] if fact is not None]
        for a, b in _loop_pairs(reason[1]):
            found.extend(_way_steps(derived, a, b))
        return found
    # Behind a label or the number of a part stand the steps that tell fields.
    _, a, b, _, *facts = (*reason, None)
    return [*_way_steps(derived, a, b), *[fact for fact in facts if fact is not None]]


def _way_steps(derived, a, b):
    return [step for step, _, _ in way_between(derived, a, b)]


def _loop_pairs(edges):
    """The pairs of equal terms of a loop: what an edge leads to, and where the next begins."""
    return [(edges[at - 1][1], edges[at][0]) for at in range(len(edges))]


def _heads(proving, a, b):
    return (proving.same_row(a, b),)


def _missing(proving, a, b, label, fact):
    return (proving.same_row(a, b), label, proving.fact_row(fact))


def _lacked(proving, step):
    _, tail, label, _, _ = proving.derived.steps[step]
    place, claim = proving.derived.lacked[(tail, label)]
    return (proving.of_steps[step], proving.add_row("given", place, claim))


def _loop(proving, edges):
    pairs = []
    for (a, b), (_, _, fact) in zip(_loop_pairs(edges), edges):
        hops = () if fact is None else (proving.of_steps[fact],)
        pairs.append((proving.same_row(a, b), hops))
    return tuple(pairs)


LAST_ROWS = {"heads": _heads, "missing": _missing, "lacked": _lacked, "loop": _loop}
