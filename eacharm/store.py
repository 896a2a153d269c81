"""The store: equations between terms, each under a condition."""

from eacharm.bindings import Bindings
from eacharm.copying import Copier
from eacharm.equations import Equations
from eacharm.resolving import resolved, resolved_scheme, resolved_schemes


class Store:
    """Letters and demands on them; it answers for every setting at once."""

    def __init__(self, living=True):
        self.living = living
        self._bindings = Bindings(living)

    def new_letter(self):
        """A letter that this store has not given before."""
        return self._bindings.new_letter()

    def new_row(self, condition=True, labels=()):
        """A row letter that is new and lacks the labels under the condition."""
        letter = self._bindings.new_row()
        mask = self._bindings.mask_for(condition)
        for label in labels:
            self._bindings.add_lack(mask, letter, label)
        return letter

    def unify(self, condition, left, right):
        """Demands under the condition that two terms or two rows are equal."""
        mask = self._bindings.mask_for(condition)
        Equations(self._bindings).solve(mask, left, right)
        self._note_living()

    def lack(self, condition, letter, labels):
        """Demands under the condition that the row letter lacks the labels."""
        mask = self._bindings.mask_for(condition)
        if mask:
            Equations(self._bindings).lack(mask, letter, labels)
            self._note_living()

    def reach(self, condition, term):
        """Under which living settings each letter stands in the resolved term."""
        mask = self._bindings.mask_for(condition)
        found = self._bindings.reach(mask, term)
        return {letter: self._bindings.masks.condition_of(found[letter]) for letter in found}

    def resolved_at(self, setting, term):
        """The resolved term at a setting, or None if the setting is not living."""
        return self.all_resolved_at(setting, [term])[0]

    def all_resolved_at(self, setting, terms):
        """The resolved terms at a setting, or None for each; what they share is made once."""
        bit = self._living_bit(setting)
        known = {}
        return [resolved(self._bindings, bit, term, known) if bit else None for term in terms]

    def is_row(self, letter):
        """Tells whether a letter is a row letter."""
        return letter in self._bindings.lacked

    def lacks_at(self, setting, letter):
        """The labels that an unbound row letter lacks, None where nothing lives."""
        bit = self._living_bit(setting)
        return self._bindings.lacks_at(bit, letter) if bit else None

    def scheme_at(self, setting, term):
        """The scheme of the resolved term at a setting, or None."""
        bit = self._living_bit(setting)
        return resolved_scheme(self._bindings, bit, term) if bit else None

    def scheme_table(self, condition, term):
        """The table of the schemes at the living settings of the condition."""
        mask = self._bindings.mask_for(condition)
        return resolved_schemes(self._bindings, mask, term) if mask else ()

    def copied(self, condition, term, gens):
        """The pair of a copy of the term and the new letter of each key of `gens`."""
        bindings = self._bindings
        for place in (condition, *list(gens.values())):
            bindings.admit(place)
        # All switches are known by now, so no mask has to be doubled any more.
        mask = bindings.mask_for(condition)
        copier = Copier(bindings, {letter: bindings.mask_for(gens[letter]) for letter in gens})
        copy = copier.copied(mask, term) if mask else term
        return copy, copier.fresh

    def _living_bit(self, setting):
        return self._bindings.masks.bit_of(setting) & self._bindings.living

    def _note_living(self):
        self.living = self._bindings.masks.condition_of(self._bindings.living)
