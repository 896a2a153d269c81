"""Builds: counting, finding and comparing the settings of checked programs (16.2 to 16.4)."""

from eacharm.causes import stage_condition
from eacharm.conditions import all_settings, both, count_settings, either, first_setting, holds, no
from eacharm.tables import agreement, narrowed
from eacharm.terms import is_instance

STAGES = ("names", "types", "cases", "fits")


def stage_counts(told):
    """At how many settings the program comes to each stage."""
    counts = []
    for stage in STAGES:
        counts.append((stage, count_settings(stage_condition(told, stage), told.switches)))
    return tuple(counts)


def fitting_schemes(told):
    """The table of the schemes at the settings that fit."""
    return narrowed(told.schemes, stage_condition(told, "fits"))


def scheme_counts(told):
    """The pairs (scheme, number of settings that fit with it)."""
    counts = []
    for condition, scheme in fitting_schemes(told):
        counts.append((scheme, count_settings(condition, told.switches)))
    return tuple(counts)


def builds_having(told, wished, *, lacks=None):
    """The condition that the program fits and the term is an instance of its scheme."""
    found = False
    for condition, scheme in fitting_schemes(told):
        if is_instance(wished, scheme, lacks):
            found = either(found, condition)
    return found


def nearest_build(told, wanted, *, prices=None):
    """The pair (price, setting) of the nearest setting that fits, or None."""
    known = {} if prices is None else prices
    fits = stage_condition(told, "fits")
    best = None
    # Settings come in ascending order, so of one price the least is kept.
    for setting in all_settings(told.switches):
        if holds(fits, setting):
            price = _price(told.switches, setting, wanted, known)
            if best is None or price < best[0]:
                best = (price, setting)
    return best


def alike_condition(told, other):
    """The condition that two programs have the same stage and, fitting, the same scheme."""
    stages = agreement(told.stages, other.stages)
    return both(stages, agreement(fitting_schemes(told), fitting_schemes(other)))


def parting_setting(told, other):
    """The least setting at which two programs are not alike, or None."""
    return first_setting(no(alike_condition(told, other)))


def _price(switches, setting, wanted, prices):
    """What it costs to turn the switches that differ."""
    turned = [switch for switch in switches if (switch in setting) != (switch in wanted)]
    return sum([prices.get(switch, 1) for switch in turned])
