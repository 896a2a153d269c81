"""From a text to its items: words, and brackets around items.

An item is a pair (place, content): the index of its first sign, and a word or
a list of items.
"""

from eacharm.errors import BadText

MOST_SIGNS = 4000
MOST_OPEN = 30
BLANKS = " \n"
SIGNS = "abcdefghijklmnopqrstuvwxyzABCDEFGHIJKLMNOPQRSTUVWXYZ0123456789()+-<=_ \n"


def item_of(text):
    """The one item of a text; raises BadText where signs or brackets are at fault."""
    if len(text) > MOST_SIGNS:
        raise BadText(MOST_SIGNS, "long")
    for place, sign in enumerate(text):
        if sign not in SIGNS:
            raise BadText(place, "sign")
    groups = [[]]
    starts = []
    for place, word in _words(text):
        if word == ")":
            if not starts:
                raise BadText(place, "bracket")
            done = (starts.pop(), groups.pop())
            groups[-1].append(done)
            continue
        if not starts and groups[0]:
            raise BadText(place, "after")
        if word != "(":
            groups[-1].append((place, word))
            continue
        if len(starts) == MOST_OPEN:
            raise BadText(place, "deep")
        starts.append(place)
        groups.append([])
    if starts or not groups[0]:
        raise BadText(len(text), "bracket")
    return groups[0][0]


def _words(text):
    """The pairs (place, word) of the words and brackets, from left to right."""
    found = []
    start = None
    for place, sign in enumerate(text):
        parting = sign in BLANKS or sign in "()"
        if start is None and not parting:
            start = place
        if start is not None and parting:
            found.append((start, text[start:place]))
            start = None
        if sign in "()":
            found.append((place, sign))
    if start is not None:
        found.append((start, text[start:]))
    return found
