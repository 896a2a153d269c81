"""From the text of a scheme to a term and its lacks.

Here words and counts are looked at; spacing, the numbers of the letters and
what is lacked are left to `read_scheme`, which prints again what is found here.
"""

from eacharm.errors import BadSchemeText
from eacharm.names import FIGURES, SMALL, consists_of, is_name

MOST_BRACKETS = 100
MOST_FIGURES = 4
PLAIN = ("int", "bool")
ROWS = {"record": "record", "tags": "variant"}


def scheme_parts(text):
    """The pair (term, lacks) that a text tells; raises BadSchemeText."""
    item = _nested(text)
    if not isinstance(item, list) or len(item) < 2 or item[0] != "scheme":
        raise BadSchemeText()
    return _term(item[1]), tuple([_lacks_pair(group) for group in item[2:]])


def _nested(text):
    """The one item of a text: a word, or a list of items for a bracket."""
    groups = [[]]
    for word in text.replace("(", " ( ").replace(")", " ) ").split(" "):
        if word == "(":
            groups.append([])
        elif word == ")":
            done = groups.pop()
            if not groups:
                raise BadSchemeText()
            groups[-1].append(done)
        elif word:
            groups[-1].append(word)
        if len(groups) > MOST_BRACKETS + 1:
            raise BadSchemeText()
    if len(groups) != 1 or len(groups[0]) != 1:
        raise BadSchemeText()
    return groups[0][0]


def _term(item):
    if isinstance(item, str):
        return _word_term(item)
    word = _word_of(item[0] if item else item)
    rest = item[1:]
    if word in ROWS:
        return _row_term(ROWS[word], rest)
    if word == "of":
        _check(len(rest) >= 1)
        return ("data", _name_of(rest[0]), _terms(rest[1:]))
    if word == "tuple":
        _check(2 <= len(rest) <= 4)
        return ("tuple", _terms(rest))
    if word == "to":
        _check(len(rest) == 2)
        return ("arrow", _term(rest[0]), _term(rest[1]))
    if word == "from":
        _check(len(rest) == 2)
        return ("hidden", _name_of(rest[0]), _name_of(rest[1]))
    _check(len(rest) == 1)
    if word == "cell":
        return ("cell", _term(rest[0]))
    _check(word == "stone")
    return ("stone", _stone_of(rest[0]))


def _word_term(word):
    if word in PLAIN:
        return (word,)
    return ("letter", _letter_of(word))


def _row_term(word, items):
    tail = None
    if len(items) >= 2 and items[-2] == "|":
        tail = _letter_of(items[-1])
        items = items[:-2]
    fields = []
    for item in items:
        _check(isinstance(item, list) and len(item) == 2)
        fields.append((_name_of(item[0]), _term(item[1])))
    labels = [label for label, _ in fields]
    _check(labels == sorted(set(labels)))
    return (word, tuple(fields), tail)


def _terms(items):
    return tuple([_term(item) for item in items])


def _lacks_pair(group):
    _check(isinstance(group, list) and len(group) >= 2 and group[0] == "lacks")
    return _number_of(group[1]), tuple([_name_of(item) for item in group[2:]])


def _word_of(item):
    _check(isinstance(item, str))
    return item


def _name_of(item):
    _check(is_name(_word_of(item)))
    return item


def _stone_of(item):
    _check(len(_word_of(item)) <= 40 and consists_of(item, SMALL + FIGURES + "."))
    return item


def _letter_of(item):
    _check(_word_of(item).startswith("?"))
    return _number_of(item[1:])


def _number_of(item):
    """A number of few figures; one with a leading zero is not printed so again."""
    word = _word_of(item)
    _check(1 <= len(word) <= MOST_FIGURES and consists_of(word, FIGURES))
    return int(word)


def _check(good):
    if not good:
        raise BadSchemeText()
