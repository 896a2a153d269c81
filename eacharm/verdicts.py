"""The texts of verdicts, as they stand in the lines of a report (16.6 to 16.8)."""

from eacharm.errors import BadSchemeText
from eacharm.names import FIGURES, consists_of
from eacharm.scoping import WORDS
from eacharm.terms import read_scheme, scheme_text

MOST_FIGURES = 9
NO_LOT = "none"


def verdict_text(verdict):
    """The text of a verdict of a report."""
    word = verdict[0]
    if word == "types":
        return f"{word} {_lots_text(verdict[1])}"
    if word == "fits":
        return f"{word} {scheme_text(verdict[1])}"
    return f"{word} {verdict[1]} {verdict[2]}"


def read_verdict(text, marks):
    """The verdict whose text it is, over the marks; None for any other text."""
    word, _, rest = text.partition(" ")
    if word == "types":
        lots = _read_lots(rest, marks)
        return None if lots is None else (word, lots)
    if word == "fits":
        return _read_fitting(rest)
    number, _, detail = rest.partition(" ")
    if not _is_count(number):
        return None
    if (word == "names" and detail in WORDS) or (word == "cases" and detail != ""):
        return (word, int(number), detail)
    return None


def _lots_text(lots):
    if lots == ((),):
        return NO_LOT
    return ",".join(["+".join([str(mark) for mark in lot]) for lot in lots])


def _read_lots(text, marks):
    """The tuple of lots of a text, or None."""
    if text == NO_LOT:
        return ((),)
    lots = []
    for part in text.split(","):
        words = part.split("+")
        if any([word not in [str(mark) for mark in marks] for word in words]):
            return None
        lots.append([int(word) for word in words])
    if not _ascends(lots) or not all([_ascends(lot) for lot in lots]):
        return None
    if any([_within(lot, other) for lot in lots for other in lots if lot != other]):
        return None
    return tuple([tuple(lot) for lot in lots])


def _read_fitting(text):
    try:
        return ("fits", read_scheme(text))
    except BadSchemeText:
        return None


def _is_count(text):
    """Whether a text is a number of few figures without a leading zero."""
    if not 1 <= len(text) <= MOST_FIGURES or not consists_of(text, FIGURES):
        return False
    return text == "0" or text[0] != "0"


def _ascends(things):
    return all([things[at - 1] < things[at] for at in range(1, len(things))])


def _within(lot, other):
    return all([mark in other for mark in lot])
