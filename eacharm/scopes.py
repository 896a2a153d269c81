"""Scopes: what names mean at a place, under masks, and what modules show."""


class Target:
    """What a use means: the node that declares or binds the name.

    `word` is one of "held", "defined", "val", "maker", "data", "letter",
    "alias" and "hide"; `name` is the name or, of a held one, its slot; `node`
    is the declaring node where more of it is needed.
    """

    def __init__(self, number, word, name, node=None):
        self.number = number
        self.word = word
        self.name = name
        self.node = node


class Scope:
    """The names of one place, by space, and the scope around it."""

    def __init__(self, around):
        self.around = around
        self.entries = {}
        self.declared = {}

    def enter(self, space, name, mask, target):
        """Lets a name mean something from here on; it hides what it meant before."""
        self.entries.setdefault((space, name), []).append((mask, target))

    def declare(self, space, name, mask):
        """Notes that a name is declared; returns the mask at which it was so before."""
        before = self.declared.get((space, name), 0)
        self.declared[(space, name)] = before | mask
        return before & mask

    def own_pieces(self, space, name, mask):
        """What a name of this very scope means: pairs (mask, target), and the rest."""
        found = []
        for place, target in self.entries.get((space, name), [])[::-1]:
            if place & mask:
                found.append((place & mask, target))
                mask &= ~place
        return found, mask

    def pieces(self, space, name, mask):
        """What a name means here: pairs (mask, target), and the mask of no meaning."""
        found = []
        scope = self
        while scope is not None and mask:
            more, mask = scope.own_pieces(space, name, mask)
            found.extend(more)
            scope = scope.around
        return found, mask


class View:
    """What a module shows.

    `word` is "struct", "sealed", "applied", "parameter" or "every" (it holds
    every name); `name` is that of the module; `shown` is the scope whose own
    names it holds, None for "every"; `argument` is the view of the module
    that a functor is applied to.
    """

    def __init__(self, word, name, shown, argument=None):
        self.word = word
        self.name = name
        self.shown = shown
        self.argument = argument

    def pieces(self, space, name, mask):
        """What a name of the module means, and the mask at which it does not hold it."""
        if self.shown is None:
            return [], 0
        return self.shown.own_pieces(space, name, mask)


class Functor:
    """A functor: the scope of its items, and what its parameter must meet."""

    def __init__(self, result, asked):
        self.result = result
        self.asked = asked
