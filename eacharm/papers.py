"""Papers: why a program has no typing, told by its unfolded program (12.5 to 12.9)."""

from eacharm.choosing import chosen, kept_only
from eacharm.deriving import Deriving
from eacharm.errors import NotRefused, TooLarge
from eacharm.proving import paper_of
from eacharm.scoping import names_table
from eacharm.unfolding import claims_of, size_of

MOST_PLACES = 2000


def unfolded_size(program, setting, lot):
    """The number of places of expressions and patterns of the unfolded program."""
    return size_of(kept_only(chosen(program, setting), lot))


def paper_at(program, setting, lot):
    """A paper that the chosen program with the marks of the lot kept has no typing."""
    wanted = tuple(sorted(set(lot)))
    whole = chosen(program, setting)
    if names_table(whole):
        raise NotRefused(wanted)
    tree = kept_only(whole, wanted)
    size = size_of(tree)
    if size > MOST_PLACES:
        raise TooLarge(size)
    derived = Deriving(claims_of(tree))
    if derived.clash is None:
        raise NotRefused(wanted)
    return paper_of(derived)
