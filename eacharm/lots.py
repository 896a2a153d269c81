"""Lots: which marks cannot all be kept, and what the check tells at a setting (Part 12)."""

from eacharm.conditions import either, fixed, holds, no
from eacharm.tables import ordered_table, value_at


def least_lots(condition, marks):
    """The least lots of the marks at which the condition holds."""
    found = []
    for lot in _lots_of(marks):
        # Lesser lots come first, so a lot that is left out contains one that was found.
        if holds(condition, _kept(lot)) and not any([_within(less, lot) for less in found]):
            found.append(lot)
    return tuple(sorted(found))


def lots_at(told, setting):
    """The least refused lots of a check at a setting."""
    return least_lots(no(_typable_at(told, setting)), told.marks)


def lots_table(told):
    """The table of the least refused lots at each setting."""
    pieces = _lot_pieces(told, no(told.typable))
    return ordered_table([(pieces[lots], lots) for lots in pieces])


def lot_condition(told, lot):
    """The condition under which the lot is a least refused one."""
    wanted = tuple(sorted(set(lot)))
    found = False
    for condition, lots in lots_table(told):
        if wanted in lots:
            found = either(found, condition)
    return found


def repairs_at(told, setting):
    """The least lots of marks that, made holes, leave a program with a typing."""
    return least_lots(_turned(_typable_at(told, setting)), told.marks)


def verdict_at(told, setting):
    """What the check tells at a setting: the stage and what belongs to it."""
    stage = value_at(told.stages, setting)
    if stage == "types":
        return (stage, lots_at(told, setting))
    if stage == "fits":
        return (stage, value_at(told.schemes, setting))
    return (stage, *value_at(told.faults, setting))


def _lots_of(marks):
    """All lots of the marks; a lot comes behind its lesser ones."""
    lots = [()]
    for mark in sorted(set(marks)):
        lots = [*lots, *[(*lot, mark) for lot in lots]]
    return lots


def _kept(lot):
    """The setting of the marks' switches in which just the lot is kept."""
    return tuple([f"m{mark}" for mark in lot])


def _within(less, lot):
    return all([mark in lot for mark in less])


def _typable_at(told, setting):
    """What `typable` comes to at a setting: a condition over the marks' switches."""
    condition = told.typable
    for switch in told.switches:
        condition = fixed(condition, switch, switch in setting)
    return condition


def _turned(condition):
    """The condition with on and off exchanged for every switch."""
    if not isinstance(condition, tuple):
        return condition
    return (condition[0], _turned(condition[2]), _turned(condition[1]))


def _lot_pieces(told, refused):
    """For each tuple of lots the condition that these are the least refused ones.

    The marks' switches stand above all others, so what is left behind the
    switches of the program is a condition over the marks.
    """
    if not isinstance(refused, tuple) or refused[0] not in told.switches:
        return {least_lots(refused, told.marks): True}
    on = _lot_pieces(told, refused[1])
    off = _lot_pieces(told, refused[2])
    pieces = {}
    for lots in [*on, *off]:
        first, second = on.get(lots, False), off.get(lots, False)
        pieces[lots] = first if first == second else (refused[0], first, second)
    return pieces
