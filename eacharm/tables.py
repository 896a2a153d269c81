"""Tables: values at settings, as pieces (condition, value) in one form."""

from eacharm.conditions import both, but_not, either, first_setting, fixed, holds, no


def table_of(rows):
    """The table in which the first row whose condition holds gives the value."""
    taken = False
    pieces = []
    for condition, value in rows:
        fresh = but_not(condition, taken)
        taken = either(taken, fresh)
        pieces.append((fresh, value))
    return joined_table(pieces)


def value_at(table, setting, default=None):
    """The value at a setting, or the default where there is none."""
    for condition, value in table:
        if holds(condition, setting):
            return value
    return default


def covered(table):
    """The condition that there is a value."""
    whole = False
    for condition, _ in table:
        whole = either(whole, condition)
    return whole


def narrowed(table, condition):
    """The table without the values outside of the condition."""
    return ordered_table([(both(part, condition), value) for part, value in table])


def fixed_table(table, switch, on):
    """The table of the values with the switch turned on or off."""
    return ordered_table([(fixed(part, switch, on), value) for part, value in table])


def paired(left, right):
    """The table of the pairs of values where both tables have one."""
    pieces = []
    for condition, value in left:
        for part, other in right:
            pieces.append((both(condition, part), (value, other)))
    return ordered_table(pieces)


def agreement(left, right):
    """The condition that two tables have equal values, or that neither has one."""
    same = no(either(covered(left), covered(right)))
    for condition, value in left:
        at = _place_of(right, value)
        if at is not None:
            same = either(same, both(condition, right[at][0]))
    return same


def joined_table(pieces):
    """The table of pieces of which no two hold at one setting."""
    joined = []
    for condition, value in pieces:
        if condition is not False:
            _join(joined, condition, value)
    return ordered_table(joined)


def ordered_table(pieces):
    """As `joined_table`, where no two pieces have equal values."""
    rows = [(first_setting(part), part, value) for part, value in pieces if part is not False]
    # Only switches of least settings can tell two least settings apart.
    names = sorted({name for first, _, _ in rows for name in first})
    ranked = [([name in first for name in names], part, value) for first, part, value in rows]
    ranked = sorted(ranked, key=lambda row: row[0])
    return tuple([(part, value) for _, part, value in ranked])


def _join(joined, condition, value):
    at = _place_of(joined, value)
    if at is None:
        joined.append((condition, value))
    else:
        part, known = joined[at]
        joined[at] = (either(part, condition), known)


def _place_of(joined, value):
    for at, (_, known) in enumerate(joined):
        if known == value:
            return at
    return None
