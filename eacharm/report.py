"""Reports: the verdicts of all settings, and their texts (16.5 to 16.8)."""

from eacharm.builds import fitting_schemes
from eacharm.causes import stage_condition
from eacharm.conditions import both, either, first_setting, switches_of
from eacharm.errors import BadConditionText, BadReport
from eacharm.lots import lots_table
from eacharm.names import CAPITALS, FIGURES, SMALL, consists_of
from eacharm.shapes import shape_text
from eacharm.tables import narrowed, ordered_table, value_at
from eacharm.verdicts import read_verdict, verdict_text

MOST_SWITCHES = 12
MOST_SIGNS = 8
MARKS = ("1", "2", "3", "4", "5", "6")


def condition_text(condition):
    """The text of a condition."""
    if not isinstance(condition, tuple):
        return "1" if condition else "0"
    switch, on, off = condition
    return f"{switch}?{condition_text(on)}:{condition_text(off)}"


def read_condition(text):
    """The condition whose text it is; raises BadConditionText for any other text."""
    condition, end = _condition_from(text, 0, "", {})
    if end != len(text):
        raise BadConditionText()
    return condition


class Report:
    """The switches and marks of a program, and the table of its verdicts."""

    def __init__(self, switches, marks, rows):
        self.switches = tuple(switches)
        self.marks = tuple(marks)
        self.rows = tuple(rows)

    def __iter__(self):
        return iter(self.rows)

    @property
    def fitting(self):
        """The condition that the verdict is "fits"."""
        found = False
        for condition, verdict in self.rows:
            if verdict[0] == "fits":
                found = either(found, condition)
        return found

    def verdict(self, setting):
        """The verdict at a setting."""
        return value_at(self.rows, setting)

    def written(self):
        """The text of the report."""
        lines = [" ".join(["switches", *self.switches])]
        lines.append(" ".join(["marks", *[str(mark) for mark in self.marks]]))
        for condition, verdict in self.rows:
            lines.append(f"{condition_text(condition)} {verdict_text(verdict)}")
        return "\n".join(lines)


def report_of(told):
    """The report of a check."""
    pieces = []
    for condition, lots in narrowed(lots_table(told), stage_condition(told, "types")):
        pieces.append((condition, ("types", lots)))
    for condition, (number, word) in narrowed(told.faults, stage_condition(told, "names")):
        pieces.append((condition, ("names", number, word)))
    for condition, (number, shape) in narrowed(told.faults, stage_condition(told, "cases")):
        pieces.append((condition, ("cases", number, shape_text(shape))))
    for condition, scheme in fitting_schemes(told):
        pieces.append((condition, ("fits", scheme)))
    return Report(told.switches, told.marks, ordered_table(pieces))


def read_report(text):
    """The report whose text it is; raises BadReport for any other text."""
    lines = text.split("\n")
    switches = lines[0].split(" ")
    if switches[0] != "switches" or not _are_switches(switches[1:]):
        raise BadReport(1)
    marks = lines[1].split(" ") if len(lines) > 1 else [""]
    if marks[0] != "marks" or not _are_marks(marks[1:]):
        raise BadReport(2)
    numbers = [int(mark) for mark in marks[1:]]
    return Report(switches[1:], numbers, _rows_of(lines, switches[1:], numbers))


def _condition_from(text, at, above, known):
    """The condition that begins at a place of a text, and the place behind it.

    Its switches must stand above one; `known` has all switches so far.
    """
    if text[at:at + 1] in ("0", "1"):
        return text[at] == "1", at + 1
    switch, mark, _ = text[at:at + MOST_SIGNS + 1].partition("?")
    if mark == "" or not _is_word(switch, CAPITALS + SMALL) or switch <= above:
        raise BadConditionText()
    known[switch] = True
    if len(known) > MOST_SWITCHES:
        raise BadConditionText()
    on, at = _condition_from(text, at + len(switch) + 1, switch, known)
    if text[at:at + 1] != ":":
        raise BadConditionText()
    off, at = _condition_from(text, at + 1, switch, known)
    if on == off:
        raise BadConditionText()
    return (switch, on, off), at


def _is_word(word, first):
    """Whether a word of a few letters and figures begins with one of the signs."""
    if not 1 <= len(word) <= MOST_SIGNS or word[0] not in first:
        return False
    return consists_of(word, CAPITALS + SMALL + FIGURES)


def _are_switches(words):
    if len(words) > MOST_SWITCHES or not _ascends(words):
        return False
    return all([_is_word(word, CAPITALS) or _is_edit(word) for word in words])


def _is_edit(word):
    return len(word) == 2 and word[0] == "e" and word[1] in FIGURES and word[1] != "0"


def _are_marks(words):
    return _ascends(words) and all([word in MARKS for word in words])


def _ascends(words):
    return all([words[at - 1] < words[at] for at in range(1, len(words))])


def _rows_of(lines, switches, marks):
    """The rows of the lines behind the first two; they must form a whole table."""
    rows = []
    taken = False
    texts = {}
    ranks = []
    for number, line in list(enumerate(lines, start=1))[2:]:
        condition, verdict = _row_of(line, switches, marks)
        if condition is False or verdict is None or verdict_text(verdict) in texts:
            raise BadReport(number)
        rank = [switch in first_setting(condition) for switch in switches]
        if both(condition, taken) is not False or (ranks and rank <= ranks[-1]):
            raise BadReport(number)
        taken = either(taken, condition)
        texts[verdict_text(verdict)] = True
        ranks.append(rank)
        rows.append((condition, verdict))
    if taken is not True:
        raise BadReport(len(lines) + 1)
    return rows


def _row_of(line, switches, marks):
    """The condition and the verdict of a line; None for a verdict that is not valid."""
    text, _, rest = line.partition(" ")
    try:
        condition = read_condition(text)
    except BadConditionText:
        return False, None
    if not all([switch in switches for switch in switches_of(condition)]):
        return False, None
    return condition, read_verdict(rest, marks)
