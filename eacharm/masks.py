"""Masks: conditions as whole numbers with one bit for each setting.

Where many conditions are joined again and again, one bit for each of up to
4,096 settings is much faster than tuples. The bit of a setting has the number
that the places of its switches give; a new switch takes the next place, so the
bits from before stay where they are, and what held holds on and off.
"""

from eacharm.conditions import switches_of


class Masks:
    """The switches that are known so far, and what masks mean."""

    def __init__(self):
        self.whole = 1
        self.places = {}
        self.on = {}
        self.known = {}

    def new_switches(self, condition):
        """The switches of a condition that are not known yet."""
        return [switch for switch in switches_of(condition) if switch not in self.places]

    def add_switch(self, switch):
        """Makes a switch known; returns by how much all masks must be doubled."""
        place = len(self.places)
        step = 1 << place
        self.on = {name: doubled(self.on[name], step) for name in self.on}
        self.on[switch] = self.whole << step
        self.places[switch] = place
        self.whole = doubled(self.whole, step)
        self.known = {}
        return step

    def mask_of(self, condition):
        """The mask of a condition whose switches are known."""
        if not isinstance(condition, tuple):
            return self.whole if condition else 0
        on = self.on[condition[0]]
        return (self.mask_of(condition[1]) & on) | (self.mask_of(condition[2]) & ~on)

    def bit_of(self, setting):
        """The mask that holds at one setting; switches that are not known mean nothing."""
        code = 0
        for switch in self.places:
            if switch in setting:
                code += 1 << self.places[switch]
        return 1 << code

    def condition_of(self, mask):
        """The condition of a mask."""
        if mask not in self.known:
            self.known[mask] = self._node_of(mask)
        return self.known[mask]

    def _node_of(self, mask):
        for switch in sorted(self.places):
            step = 1 << self.places[switch]
            on = self.on[switch]
            high = (mask & on) | ((mask & on) >> step)
            low = (mask & ~on) | ((mask & ~on) << step)
            if high != low:
                return (switch, self.condition_of(high), self.condition_of(low))
        # No switch matters, so the mask is empty or whole.
        return mask != 0


def doubled(mask, step):
    """The mask that holds where the mask held, a new switch being on or off."""
    return mask | (mask << step)
