"""Interfaces: what the modules of a checked program tell (10.8)."""

from eacharm.tables import joined_table


def members_of(told, module):
    """The pairs (member, table of its schemes) of a module, ascending."""
    return _shown_tables(told, module, "value")


def hides_of(told, module):
    """The pairs (name, table of the terms) of the types of a module, ascending."""
    found = []
    for name, table in _shown_tables(told, module, "types"):
        found.append((name, tuple([(condition, scheme[0]) for condition, scheme in table])))
    return tuple(found)


def _shown_tables(told, module, space):
    """The tables of the schemes of a module's names of one space that have a value."""
    ways = told.modules.get(module, {})
    found = []
    for name in sorted([own for part, own in ways if part == space]):
        pieces = []
        for condition, term in ways[(space, name)]:
            pieces.extend(told.scheme_table(condition, term))
        table = joined_table(pieces)
        if table:
            found.append((name, table))
    return tuple(found)
