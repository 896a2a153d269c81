"""The state of a walk that gives types to a program (Part 8), under conditions.

A walk goes through the tree once. The condition of a place tells where it is
chosen, with the marks around it kept. What a name means comes from `names`; at
settings where names are at fault nothing lives, and nothing is promised.
"""

from eacharm.conditions import both, but_not, either
from eacharm.store import Store


class Definition:
    """The type of a definition, the conditions of its general letters, and its copies."""

    def __init__(self, condition, term, general):
        self.condition = condition
        self.term = term
        self.general = general
        self.copies = []


class Copy:
    """A copy of a definition's type: where it is used, and its new letters."""

    def __init__(self, used, term, fresh):
        self.used = used
        self.term = term
        self.fresh = fresh


class Typer:
    """What the walk knows so far.

    `slots` has the type of each held name, `defined` for each (number, name) of
    a let, rec, def or defrec its Definition, `aliases` the term of each alias.
    `told` has the types of expressions and patterns, `used` for each use of a
    value the new letter of each general one.
    """

    def __init__(self, names, living):
        self.names = names
        self.store = Store(living)
        self.slots = {}
        self.defined = {}
        self.aliases = {}
        self.told = {}
        self.used = {}

    def letter(self):
        """A new letter, as a term."""
        return ("letter", self.store.new_letter())

    def sides(self, choice, condition):
        """The two branches or groups of a choice, each with its condition."""
        on = (choice[2], True, False)
        pairs = ((choice[3], both(condition, on)), (choice[4], but_not(condition, on)))
        return [(side, part) for side, part in pairs if part is not False]

    def joined(self, ways):
        """The one term of several that stand under conditions."""
        if ways and all([term == ways[0][1] for _, term in ways]):
            return ways[0][1]
        whole = self.letter()
        for condition, term in ways:
            self.store.unify(condition, whole, term)
        return whole

    def parted(self, condition, pieces):
        """The pieces (mask, ..) of a name that is used, with conditions instead.

        One piece alone holds wherever names are in order.
        """
        if len(pieces) == 1:
            return [(condition, *pieces[0][1:])]
        return self.narrowed(condition, pieces)

    def narrowed(self, condition, pieces):
        """The pieces (mask, ..) with conditions, within a condition."""
        found = []
        for mask, *rest in pieces:
            part = both(condition, self.names.masks.condition_of(mask))
            if part is not False:
                found.append((part, *rest))
        return found

    def meanings(self, number, condition):
        """What a use means: triples (condition, target, view)."""
        return self.parted(condition, self.names.uses.get(number, []))

    def define(self, number, name, condition, term, held):
        """Keeps the type of a definition; what held names do not reach is general."""
        general = self.store.reach(condition, term)
        if held:
            kept = self.store.reach(condition, ("tuple", held))
            general = {k: but_not(general[k], kept.get(k, False)) for k in general}
            general = {k: general[k] for k in general if general[k] is not False}
        self.defined[(number, name)] = Definition(condition, term, general)

    def instance(self, condition, number, name):
        """The type of a use of a definition, and the new letter of each general one.

        Of uses that stand together at no setting one copy is enough. So a copy
        is made for all settings of the definition.
        """
        definition = self.defined[(number, name)]
        if not definition.general:
            return definition.term, {}
        for copy in definition.copies:
            if both(copy.used, condition) is False:
                copy.used = either(copy.used, condition)
                return copy.term, copy.fresh
        term, fresh = self.store.copied(definition.condition, definition.term, definition.general)
        definition.copies.append(Copy(condition, term, fresh))
        return term, fresh
