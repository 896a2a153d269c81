"""Causes: the least reasons why a condition holds, and what refuses a program (1.8, 16.1)."""

from eacharm.conditions import both, either, implies, switches_of

REFUSALS = ("names", "types", "cases")


def part_condition(part):
    """The condition that a part setting holds."""
    found = True
    for switch, on in part:
        found = both(found, (switch, True, False) if on else (switch, False, True))
    return found


def least_causes(condition):
    """All causes of a condition, ascending."""
    return tuple(sorted(_causes(condition)))


def stage_condition(told, *stages):
    """The condition that a checked program comes to one of the stages."""
    found = False
    for condition, stage in told.stages:
        if stage in stages:
            found = either(found, condition)
    return found


def refusal_causes(told, *stages):
    """All causes why the program is refused at one of the stages, or at any."""
    words = stages if stages else REFUSALS
    return least_causes(stage_condition(told, *words))


def deciding_switches(told):
    """The switches that decide at some setting whether the program fits."""
    return switches_of(stage_condition(told, "fits"))


def _causes(condition):
    if not isinstance(condition, tuple):
        return [()] if condition else []
    switch, on, off = condition
    # A cause without the switch is one of what holds on both sides; any
    # other one must not hold on the other side, or it could do without.
    causes = _causes(both(on, off))
    causes.extend([((switch, True), *part) for part in _causes(on) if not _is_cause(part, off)])
    causes.extend([((switch, False), *part) for part in _causes(off) if not _is_cause(part, on)])
    return causes


def _is_cause(part, condition):
    """Whether the condition holds wherever the part setting does."""
    return implies(part_condition(part), condition)
