"""Small helpers of the tests: settings, conditions and tables the slow way."""

import contextlib
import itertools
import sys


@contextlib.contextmanager
def deep_recursion():
    """Lets the tests' own readings go deep; the package has to do without."""
    before = sys.getrecursionlimit()
    sys.setrecursionlimit(100000)
    try:
        yield
    finally:
        sys.setrecursionlimit(before)


def every_setting(switches):
    """All settings of the switches, as sorted tuples, in no special order."""
    names = sorted(set(switches))
    for many in range(len(names) + 1):
        yield from itertools.combinations(names, many)


def setting_rank(setting, switches):
    """A key by which [1.1] orders settings."""
    return [name in setting for name in sorted(set(switches))]


def holds_slowly(condition, setting):
    """Reads a condition as [1.2] tells it, without the program."""
    if condition is True or condition is False:
        return condition
    switch, on, off = condition
    return holds_slowly(on if switch in setting else off, setting)


def is_condition(thing):
    """Tells whether a value has the one form of [1.2]."""
    if thing is True or thing is False:
        return True
    if type(thing) is not tuple or len(thing) != 3 or type(thing[0]) is not str:
        return False
    switch, on, off = thing
    for side in (on, off):
        if not is_condition(side):
            return False
        if isinstance(side, tuple) and side[0] <= switch:
            return False
    return on != off


def random_condition(random, switches, depth=4):
    """A condition in the one form, made without the program."""
    names = sorted(set(switches))
    rows = {setting: random.random() < 0.5 for setting in every_setting(names)}
    if random.random() < 0.5:
        kept = random.sample(names, min(len(names), random.randint(0, 2)))
        rows = {s: rows[tuple(n for n in s if n in kept)] for s in rows}
    return condition_from(lambda setting: rows[setting], names)


def condition_from(test, switches, chosen=()):
    """The condition in the one form that holds where the test of a setting does."""
    names = sorted(set(switches))
    if not names:
        return bool(test(tuple(chosen)))
    first, rest = names[0], names[1:]
    on = condition_from(test, rest, (*chosen, first))
    off = condition_from(test, rest, chosen)
    return on if on == off else (first, on, off)


def value_slowly(table, setting, default=None):
    """Reads a table as [1.6] tells it."""
    for condition, value in table:
        if holds_slowly(condition, setting):
            return value
    return default


def table_faults(table, switches):
    """What of [1.6] a table does not keep; an empty list for a good one."""
    if type(table) is not tuple:
        return ["no tuple"]
    faults = []
    firsts = []
    for condition, _ in table:
        if not is_condition(condition) or condition is False:
            faults.append(f"condition {condition}")
        where = [s for s in every_setting(switches) if holds_slowly(condition, s)]
        firsts.append(min(setting_rank(s, switches) for s in where) if where else None)
    for setting in every_setting(switches):
        if sum(holds_slowly(condition, setting) for condition, _ in table) > 1:
            faults.append(f"two pieces at {setting}")
    for at, (_, value) in enumerate(table):
        if any(value == other for _, other in table[:at]):
            faults.append(f"{value} twice")
    if firsts != sorted(firsts):
        faults.append("order of the pieces")
    return faults
