"""Which data have a finite value (4.7).

Whether a data can be filled rests on which of its letters can be. So for each
data one mask is kept for each way in which its letters can be filled or not: the
way with the number `way` has the letter at an index filled where that bit is on.
"""


def note_filled(names, node, makers):
    """Keeps the masks of a data whose makers, pairs (mask, maker), have been walked through."""
    many = len(node[3])
    ways = []
    for way in range(1 << many):
        # A letter that stands twice has the state of its last place.
        known = {letter: way >> at & 1 for at, letter in enumerate(node[3])}
        found = 0
        for mask, maker in makers:
            found |= mask & _fillable(names, maker[3], node, known)
        ways.append(found)
    names.filled[node[1]] = ways


def finite_mask(names, node):
    """The mask at which a data has a finite value: all its letters can be filled."""
    return names.filled[node[1]][-1]


def _fillable(names, node, own, known):
    """The mask at which a written type in a data can be filled."""
    whole = names.masks.whole
    word = node[0]
    if word == "choose":
        on = names.masks.on[node[2]]
        first = _fillable(names, node[3], own, known)
        second = _fillable(names, node[4], own, known)
        return (first & on) | (second & ~on)
    if word == "named":
        return whole if known.get(node[2], 1) else 0
    if word == "of":
        return _fillable_data(names, node, own, known)
    if word == "cell":
        return _fillable(names, node[2], own, known)
    if word == "tuple":
        return _all_of([_fillable(names, part, own, known) for part in node[2]], whole)
    if word == "record":
        return _all_of([_fillable(names, part, own, known) for _, part in node[2]], whole)
    if word == "variant":
        found = 0 if node[2] else whole
        for _, part in node[2]:
            found |= _fillable(names, part, own, known)
        return found
    return whole


def _fillable_data(names, node, own, known):
    """The mask at which an `of` can be filled; that of the data itself cannot."""
    rest = names.masks.whole
    found = 0
    masks = [_fillable(names, part, own, known) for part in node[3]]
    # A use that stands at no setting has not been walked through.
    for mask, target, _ in names.uses.get(node[1], []):
        rest &= ~mask
        if target.number != own[1]:
            found |= mask & _in_ways(names, target.node, masks)
    return found | rest


def _in_ways(names, data, masks):
    """The mask at which a data can be filled whose letters can be so under masks."""
    whole = names.masks.whole
    found = 0
    for way, filled in enumerate(names.filled[data[1]]):
        for at in range(len(data[3])):
            mask = masks[at] if at < len(masks) else whole
            filled &= mask if way >> at & 1 else ~mask
        found |= filled
    return found


def _all_of(masks, whole):
    for mask in masks:
        whole &= mask
    return whole
