"""The errors of the program; each keeps what it was made of."""


class ArmError(ValueError):
    """The base of all errors of the program."""


class BadText(ArmError):
    """A text is no program, expression or declaration."""

    def __init__(self, place, what):
        ArmError.__init__(self, f"fault at sign {place}: {what}")
        self.place = place
        self.what = what


class NoNode(ArmError):
    """A program has no node of this number."""

    def __init__(self, number):
        ArmError.__init__(self, f"no node has the number {number}")
        self.number = number


class NoPlace(ArmError):
    """No edit can be laid over the node of this number."""

    def __init__(self, number):
        ArmError.__init__(self, f"no edit can be laid at {number}")
        self.number = number


class BadSchemeText(ArmError):
    """A text is not that of a scheme."""


class NotTyped(ArmError):
    """A program has no typing at a setting with some marks kept."""

    def __init__(self, setting, kept):
        ArmError.__init__(self, f"not typed at {setting} with the marks {kept}")
        self.setting = setting
        self.kept = kept


class NotRefused(ArmError):
    """A lot has no paper."""

    def __init__(self, lot):
        ArmError.__init__(self, f"the lot {lot} has no paper")
        self.lot = lot


class TooLarge(ArmError):
    """An unfolded program is too large."""

    def __init__(self, size):
        ArmError.__init__(self, f"the unfolded program has {size} places")
        self.size = size


class Undecided(ArmError):
    """A run has come to a choice that nobody has decided."""

    def __init__(self, switch):
        ArmError.__init__(self, f"the switch {switch} is not decided")
        self.switch = switch


class BadPiece(ArmError):
    """A piece cannot stand at the node of this number."""

    def __init__(self, number):
        ArmError.__init__(self, f"the piece cannot stand at {number}")
        self.number = number


class TooManyEdits(ArmError):
    """A bench holds as many edits as it can."""

    def __init__(self, most):
        ArmError.__init__(self, f"a bench holds at most {most} edits")
        self.most = most


class NoEdit(ArmError):
    """No edit of a bench has this switch."""

    def __init__(self, switch):
        ArmError.__init__(self, f"no edit has the switch {switch}")
        self.switch = switch


class NotOn(ArmError):
    """The edit with this switch is off."""

    def __init__(self, switch):
        ArmError.__init__(self, f"the edit {switch} is off")
        self.switch = switch


class NotOff(ArmError):
    """The edit with this switch is on."""

    def __init__(self, switch):
        ArmError.__init__(self, f"the edit {switch} is on")
        self.switch = switch


class NoDeed(ArmError):
    """There is no deed to undo."""


class UnlikeBase(ArmError):
    """Two benches do not go on from the same program."""


class BadConditionText(ArmError):
    """A text is not that of a condition."""


class BadReport(ArmError):
    """A line of a report is not valid."""

    def __init__(self, line):
        ArmError.__init__(self, f"the line {line} is not valid")
        self.line = line
