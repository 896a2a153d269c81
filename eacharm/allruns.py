"""All runs at once: the outcomes of a program at every setting (Part 14)."""

from eacharm.conditions import both, either, first_setting, no, switches_of
from eacharm.machine import Machine
from eacharm.tables import agreement, joined_table


def run_paths(program, fuel=400):
    """Yields the pairs (decided, outcome) of the paths; at each setting one agrees."""
    work = [Machine(program, fuel)]
    while work:
        machine = work.pop()
        machine.advance()
        if machine.outcome is not None:
            yield (machine.decided, machine.outcome)
        else:
            other = machine.twin()
            switch = machine.waiting
            machine.settle(switch, True)
            other.settle(switch, False)
            work.extend([machine, other])


def all_runs(program, fuel=400):
    """The table of the outcomes of all settings."""
    pieces = []
    for decided, outcome in run_paths(program, fuel):
        pieces.append((_agreeing(decided), outcome))
    return joined_table(pieces)


def outcome_condition(table, word):
    """The condition that the outcome begins with the word."""
    found = False
    for condition, outcome in table:
        if outcome[0] == word:
            found = either(found, condition)
    return found


def deciding_switches(table):
    """The switches on which a table depends."""
    found = {}
    for condition, _ in table:
        # A piece holds on one side of its switch alone somewhere, and no other piece has its value.
        found.update({switch: True for switch in switches_of(condition)})
    return tuple(sorted(found))


def runs_apart(program, other, fuel=400):
    """The least setting at which two programs have unlike outcomes, or None."""
    return first_setting(no(agreement(all_runs(program, fuel), all_runs(other, fuel))))


def _agreeing(decided):
    """The condition of all settings that agree with decided switches."""
    found = True
    for switch, on in decided:
        found = both(found, (switch, on, not on))
    return found
