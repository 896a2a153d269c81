"""The bench: a program and edits of it, which one check answers for (Part 15)."""

from eacharm.causes import stage_condition
from eacharm.checking import check
from eacharm.choosing import edited_sort, marks_in, partly, put_at
from eacharm.conditions import all_settings, either, holds, no
from eacharm.errors import BadPiece, NoDeed, NoEdit, NotOff, NotOn, TooManyEdits, UnlikeBase
from eacharm.lots import verdict_at
from eacharm.tables import agreement, fixed_table
from eacharm.trees import all_nodes

MOST_EDITS = 6


class Bench:
    """A program, the edits that are laid into it, and which of them are on.

    `states` has what the attributes were before each deed that is not undone.
    """

    def __init__(self, program):
        self.base = program
        self.states = []
        self._set(program, (), (), 0, check(program))

    def put_edit(self, number, *, piece):
        """Lays an edit over an expression or a declaration; returns its switch."""
        sort = edited_sort(self.program, number)
        if _is_node(piece) != (sort == "expression"):
            raise BadPiece(number)
        if any([mark in self.told.marks for mark in _marks_of(piece)]):
            raise BadPiece(number)
        if len(self.edits) >= MOST_EDITS:
            raise TooManyEdits(MOST_EDITS)
        switch = self._free_switch()
        program = put_at(self.program, number, switch, piece)
        edits = (*self.edits, (switch, number, piece))
        self._do(program, edits, (*self.lot, switch), self.folded, check(program))
        return switch

    def take_back(self, switch):
        """Takes an edit that is on out of the lot."""
        self._check_edits([switch])
        if switch not in self.lot:
            raise NotOn(switch)
        self._do(self.program, self.edits, self._lot_without(switch), self.folded, self.told)

    def put_again(self, switch):
        """Puts an edit that is off into the lot."""
        self._check_edits([switch])
        if switch in self.lot:
            raise NotOff(switch)
        self._do(self.program, self.edits, (*self.lot, switch), self.folded, self.told)

    def fold_edit(self, switch):
        """Settles an edit: one that is on becomes part of the program, another one is dropped."""
        self._check_edits([switch])
        program = partly(self.program, ((switch, switch in self.lot),))
        edits = tuple([edit for edit in self.edits if edit[0] != switch])
        self._do(program, edits, self._lot_without(switch), self.folded + 1, check(program))

    def undo_deed(self):
        """Undoes the last deed that is not undone."""
        if not self.states:
            raise NoDeed()
        before = self.states.pop()
        self._set(*before)

    def verdict(self, setting=(), *, lot=None):
        """The verdict at a setting of the program's switches with a lot of edits on."""
        switches = self.lot if lot is None else lot
        self._check_edits(switches)
        return verdict_at(self.told, (*self._own_setting(setting), *switches))

    def fit_condition(self):
        """The condition, over all switches, that the stage is "fits"."""
        return stage_condition(self.told, "fits")

    def fitting_lots(self, setting=()):
        """All lots of edits that fit at a setting."""
        fits = self.fit_condition()
        own = self._own_setting(setting)
        return tuple([lot for lot in self._lots() if holds(fits, (*own, *lot))])

    def greatest_lots(self, setting=()):
        """The fitting lots that are part of no greater one."""
        lots = self.fitting_lots(setting)
        return tuple([lot for lot in lots if not any([_is_part(lot, other) for other in lots])])

    def least_misfits(self, setting=()):
        """The lots that do not fit, while all of their lesser lots do."""
        fitting = self.fitting_lots(setting)
        misfits = [lot for lot in self._lots() if lot not in fitting]
        return tuple([lot for lot in misfits if not any([_is_part(less, lot) for less in misfits])])

    def matters(self, switch):
        """The condition that it makes a difference to the stage or the scheme whether an edit is on."""
        self._check_edits([switch])
        unlike = False
        for table in (self.told.stages, self.told.schemes):
            on, off = fixed_table(table, switch, True), fixed_table(table, switch, False)
            unlike = either(unlike, no(agreement(on, off)))
        return unlike

    def _set(self, program, edits, lot, folded, told):
        self.program = program
        self.edits = edits
        self.lot = lot
        self.folded = folded
        self.told = told

    def _do(self, program, edits, lot, folded, told):
        """Does a deed, which can be undone."""
        self.states.append((self.program, self.edits, self.lot, self.folded, self.told))
        self._set(program, edits, tuple(sorted(lot)), folded, told)

    def _switches(self):
        return [switch for switch, _, _ in self.edits]

    def _free_switch(self):
        taken = self._switches()
        return [f"e{k}" for k in range(1, MOST_EDITS + 1) if f"e{k}" not in taken][0]

    def _check_edits(self, switches):
        for switch in switches:
            if switch not in self._switches():
                raise NoEdit(switch)

    def _lot_without(self, switch):
        return tuple([other for other in self.lot if other != switch])

    def _own_setting(self, setting):
        """The setting without switches of edits."""
        return [switch for switch in setting if switch not in self._switches()]

    def _lots(self):
        """All lots of edits, in ascending order."""
        switches = self._switches()
        lots = list(all_settings(switches))
        return sorted(lots)


class Joined:
    """A bench with the edits of two hands, and the new switches of the second one's."""

    def __init__(self, bench, switches):
        self.bench = bench
        self.switches = switches


def joined_bench(left, right):
    """A new bench with the edits of two benches of one base."""
    if left.base != right.base or left.folded != 0 or right.folded != 0:
        raise UnlikeBase()
    bench = Bench(left.base)
    for edit in left.edits:
        _put_like(bench, left, edit, edit[1])
    # What stands behind the base's numbers is of earlier edits, and moves together.
    last = _greatest_number(left.base)
    moved = _greatest_number(bench.program) - last
    switches = []
    for edit in right.edits:
        number = edit[1] if edit[1] <= last else edit[1] + moved
        switches.append((edit[0], _put_like(bench, right, edit, number)))
    return Joined(bench, tuple(switches))


def _put_like(bench, other, edit, number):
    """Puts an edit of another bench, on or off as it is there; returns its switch."""
    switch = bench.put_edit(number, piece=edit[2])
    if edit[0] not in other.lot:
        bench.take_back(switch)
    return switch


def _greatest_number(program):
    return max([node[1] for node in all_nodes(program)])


def _is_node(piece):
    return len(piece) > 0 and isinstance(piece[0], str)


def _marks_of(piece):
    """The marks of a node or of a tuple of declarations."""
    return marks_in(("piece", 0, piece))


def _is_part(lot, other):
    """Whether another lot has all of a lot's edits, and more."""
    return lot != other and all([switch in other for switch in lot])
