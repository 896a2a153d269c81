"""Names: what is at fault with them at each setting, and what binds each use."""

from eacharm.declaring import names_of
from eacharm.tables import ordered_table

WORDS = ("unknown", "twice", "count", "shape", "missing", "endless")


def names_table(program):
    """The table of the pairs (number, word) of the first fault of names."""
    return faults_table(names_of(program))


def binders(program):
    """The table of the binders of each use, by the number of the use."""
    names = names_of(program)
    found = {}
    for number in sorted(names.uses):
        masks = {}
        for mask, target, _ in names.uses[number]:
            masks[target.number] = masks.get(target.number, 0) | mask
        if masks:
            found[number] = _mask_table(names, [(masks[binder], binder) for binder in masks])
    return found


def faults_table(names):
    """The table of the first fault at each setting."""
    ranked = sorted([(number, WORDS.index(word), word) for number, word in names.faults])
    rest = names.masks.whole
    rows = []
    for number, _, word in ranked:
        mask = names.faults[(number, word)] & rest
        rest &= ~mask
        rows.append((mask, (number, word)))
    return _mask_table(names, rows)


def _mask_table(names, rows):
    return ordered_table([(names.masks.condition_of(mask), value) for mask, value in rows])
