"""The store: equations between terms, each under a condition."""

from eacharm.bindings import Bindings
from eacharm.conditions import both, holds
from eacharm.copying import Copier, fresh_letters
from eacharm.equations import Equations
from eacharm.resolving import resolved, resolved_scheme, resolved_schemes


class Store:
    """Letters and demands on them; it answers for every setting at once."""

    def __init__(self, living=True):
        self.living = living
        self._bindings = Bindings(living)

    def new_letter(self):
        """A letter that this store has not given before."""
        return self._bindings.new_letter()

    def new_row(self, condition=True, labels=()):
        """A row letter that is new and lacks the labels under the condition."""
        return self._bindings.new_row(condition, labels)

    def unify(self, condition, left, right):
        """Demands under the condition that two terms or two rows are equal."""
        Equations(self._bindings).solve(condition, left, right)
        self.living = self._bindings.living

    def lack(self, condition, letter, labels):
        """Demands under the condition that the row letter lacks the labels."""
        Equations(self._bindings).lack(condition, letter, labels)
        self.living = self._bindings.living

    def reach(self, condition, term):
        """Under which living settings each letter stands in the resolved term."""
        return self._bindings.reach(condition, term)

    def resolved_at(self, setting, term):
        """The resolved term at a setting, or None if the setting is not living."""
        if not holds(self.living, setting):
            return None
        return resolved(self._bindings, setting, term)

    def lacks_at(self, setting, letter):
        """The labels that an unbound row letter lacks, None where nothing lives."""
        if not holds(self.living, setting):
            return None
        return self._bindings.lacks_at(setting, letter)

    def scheme_at(self, setting, term):
        """The scheme of the resolved term at a setting, or None."""
        if not holds(self.living, setting):
            return None
        return resolved_scheme(self._bindings, setting, term)

    def scheme_table(self, condition, term):
        """The table of the schemes at the living settings of the condition."""
        condition = both(condition, self.living)
        if condition is False:
            return ()
        return resolved_schemes(self._bindings, condition, term)

    def copied(self, condition, term, gens):
        """The pair of a copy of the term and the new letter of each key of `gens`."""
        fresh = fresh_letters(self._bindings, gens)
        if not self._bindings.lives(condition):
            return term, fresh
        return Copier(self._bindings, gens, fresh).copied(condition, term), fresh
