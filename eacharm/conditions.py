"""Conditions: sets of settings, each in one form.

A condition is True, False, or a tuple (switch, on, off) of a switch and two
unlike conditions over switches above it. No function keeps its results for
later calls: a condition has at most 12 switches, so no walk is long.
"""


def switch_condition(switch):
    """The condition that the switch is on."""
    return (switch, True, False)


def no(condition):
    """Holds where the condition does not."""
    if not isinstance(condition, tuple):
        return not condition
    return (condition[0], no(condition[1]), no(condition[2]))


def both(condition, other):
    """Holds where both conditions do."""
    if condition is False or other is False:
        return False
    if condition is True:
        return other
    if other is True:
        return condition
    switch = min(condition[0], other[0])
    on = both(_side(condition, switch, True), _side(other, switch, True))
    off = both(_side(condition, switch, False), _side(other, switch, False))
    return _node(switch, on, off)


def either(condition, other):
    """Holds where at least one of the conditions does."""
    if condition is True or other is True:
        return True
    if condition is False:
        return other
    if other is False:
        return condition
    switch = min(condition[0], other[0])
    on = either(_side(condition, switch, True), _side(other, switch, True))
    off = either(_side(condition, switch, False), _side(other, switch, False))
    return _node(switch, on, off)


def but_not(condition, other):
    """Holds where the first condition does and the second does not."""
    if condition is False or other is True:
        return False
    if other is False:
        return condition
    if condition is True:
        return no(other)
    switch = min(condition[0], other[0])
    on = but_not(_side(condition, switch, True), _side(other, switch, True))
    off = but_not(_side(condition, switch, False), _side(other, switch, False))
    return _node(switch, on, off)


def switched(switch, on, off):
    """The condition `on` where the switch is on, `off` where it is off."""
    return _placed(switch, fixed(on, switch, True), fixed(off, switch, False))


def fixed(condition, switch, on):
    """What the condition comes to where the switch is known to be on or off."""
    if switch not in switches_of(condition):
        return condition
    return _fixed(condition, switch, on)


def holds(condition, setting):
    """Tells whether the condition holds at the setting."""
    while isinstance(condition, tuple):
        condition = condition[1] if condition[0] in setting else condition[2]
    return condition


def implies(condition, other):
    """Tells whether the second condition holds wherever the first one does."""
    if condition is False or other is True:
        return True
    if condition is True or other is False:
        return False
    switch = min(condition[0], other[0])
    if not implies(_side(condition, switch, True), _side(other, switch, True)):
        return False
    return implies(_side(condition, switch, False), _side(other, switch, False))


def switches_of(condition):
    """The switches that the condition contains, ascending."""
    found = {}
    work = [condition]
    while work:
        part = work.pop()
        if isinstance(part, tuple):
            found[part[0]] = True
            work.extend(part[1:])
    return tuple(sorted(found))


def count_settings(condition, switches):
    """At how many settings of the switches the condition holds."""
    return _count(condition, len(set(switches)))


def all_settings(switches):
    """Yields all settings of the switches, the least one first."""
    names = sorted(set(switches))
    names.reverse()
    for code in range(1 << len(names)):
        on = [name for at, name in enumerate(names) if code >> at & 1]
        yield tuple(on[::-1])


def from_settings(settings, switches):
    """Holds where just those of the switches are on that a listed setting has."""
    return _listed(settings, sorted(set(switches)), 0)


def first_setting(condition):
    """The least setting at which the condition holds, or None."""
    if condition is False:
        return None
    on = []
    while isinstance(condition, tuple):
        # A side that is not False holds somewhere, so off is tried first.
        if condition[2] is False:
            on.append(condition[0])
            condition = condition[1]
        else:
            condition = condition[2]
    return tuple(on)


def _side(condition, switch, on):
    """A side of the condition at a switch that none of its switches is below."""
    if isinstance(condition, tuple) and condition[0] == switch:
        return condition[1] if on else condition[2]
    return condition


def _node(switch, on, off):
    return on if on == off else (switch, on, off)


def _placed(switch, on, off):
    """As `switched`, where neither side contains the switch."""
    tops = [side[0] for side in (on, off) if isinstance(side, tuple)]
    top = min(tops, default=switch)
    if top >= switch:
        return _node(switch, on, off)
    first = _placed(switch, _side(on, top, True), _side(off, top, True))
    second = _placed(switch, _side(on, top, False), _side(off, top, False))
    return _node(top, first, second)


def _fixed(condition, switch, on):
    if not isinstance(condition, tuple) or condition[0] > switch:
        return condition
    if condition[0] == switch:
        return condition[1] if on else condition[2]
    first = _fixed(condition[1], switch, on)
    second = _fixed(condition[2], switch, on)
    return _node(condition[0], first, second)


def _count(condition, free):
    """Each switch that is passed on a way leaves one less to be free."""
    if not isinstance(condition, tuple):
        return 1 << free if condition else 0
    return _count(condition[1], free - 1) + _count(condition[2], free - 1)


def _listed(settings, names, at):
    if not settings:
        return False
    if at == len(names):
        return True
    on = [setting for setting in settings if names[at] in setting]
    off = [setting for setting in settings if names[at] not in setting]
    return _node(names[at], _listed(on, names, at + 1), _listed(off, names, at + 1))
