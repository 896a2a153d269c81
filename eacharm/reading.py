"""Reading: from items to nodes, with the faults of 2.6 in the order in which they are due."""

from eacharm.errors import BadText
from eacharm.forms import FORMS, GROUPS, NODE_WORDS, OPERATORS, REPEATED, ROWS
from eacharm.names import CAPITALS, FIGURES, SMALL, consists_of, is_name

MOST_NODES = 400
MOST_SWITCHES = 8
MOST_NUMBER = 1000000000
MARKS = ("1", "2", "3", "4", "5", "6")
MOST_DECLARATIONS = 30
HEADLESS = ("arm", "maker")
WITH_WORDS = ("E", "P", "T")


class Reading:
    """One reading of a text: the nodes, switches and marks that occurred so far."""

    def __init__(self):
        self.count = 0
        self.switches = {}
        self.marks = {}

    def read_tree(self, item):
        """The tree of a program."""
        parts = _parts_of(item)
        if _first_word(parts) != "program" or len(parts) < 2:
            raise BadText(item[0], "form")
        if len(parts) - 2 > MOST_DECLARATIONS:
            raise BadText(item[0], "many")
        number = self._new_number(item)
        declarations = [self.read_node("top", part) for part in parts[1:-1]]
        main = self._row("main", parts[-1])
        return ("program", number, tuple(declarations), main[1])

    def read_node(self, kind, item):
        """The node of an item at a place of a kind."""
        if isinstance(item[1], str) and kind in WITH_WORDS:
            return self._word_node(kind, item)
        head, parts = _head_and_parts(kind, item)
        kinds = FORMS[(kind, head)]
        kind_of_rest, least, most = REPEATED.get((kind, head), ("", 0, 0))
        many = len(parts) - len(kinds)
        ends = _ends(head, parts, many)
        many -= len(ends)
        if many < least or (kind_of_rest == "" and many > 0):
            raise BadText(item[0], "form")
        if many > most:
            raise BadText(item[0], "many")
        number = self._new_number(item)
        worths = [self._part(inner, part) for inner, part in zip(kinds, parts)]
        if kind_of_rest != "":
            rows = parts[len(kinds):len(kinds) + many]
            worths.append(tuple([self._part(kind_of_rest, part) for part in rows]))
        return _node(head, number, [*worths, *self._end_worths(head, ends)])

    def _end_worths(self, head, ends):
        """What a case and a module have behind all else: None where it is left out."""
        if head == "case":
            return [self._row("else row", ends[0])[1:] if ends else None]
        if head == "module":
            return [self._part("name", ends[0]) if ends else None]
        return []

    def _part(self, kind, item):
        """What stands at a place of any kind."""
        if kind == "name":
            return _name(item)
        if kind == "switch":
            return self._switch(item)
        if kind == "mark":
            return self._mark(item)
        if kind in ROWS:
            return self._row(kind, item)
        if kind in GROUPS:
            return self._group(kind, item)
        return self.read_node(kind, item)

    def _row(self, kind, item):
        parts = _parts_of(item)
        kinds = ROWS[kind]
        if len(parts) != len(kinds):
            raise BadText(item[0], "form")
        if kind == "main" and _first_word(parts) != "main":
            raise BadText(item[0], "form")
        worths = []
        for inner, part in zip(kinds, parts):
            # The first words of an else and of the main row were looked at before.
            worths.append(part[1] if inner in ("else", "main") else self._part(inner, part))
        return tuple(worths)

    def _group(self, kind, item):
        parts = _parts_of(item)
        inner, least, most = GROUPS[kind]
        if len(parts) < least:
            raise BadText(item[0], "form")
        if len(parts) > most:
            raise BadText(item[0], "many")
        return tuple([self._part(inner, part) for part in parts])

    def _switch(self, item):
        word = _word_of(item)
        if not _is_switch(word) or (word not in self.switches and len(self.switches) == MOST_SWITCHES):
            raise BadText(item[0], "switch")
        self.switches[word] = True
        return word

    def _mark(self, item):
        word = _word_of(item)
        if word not in MARKS or word in self.marks:
            raise BadText(item[0], "mark")
        self.marks[word] = True
        return int(word)

    def _word_node(self, kind, item):
        """A node that is one word."""
        place, word = item
        number = self._new_number(item)
        if kind == "T":
            return (word, number) if word in ("int", "bool") else ("named", number, _name(item))
        if word[0] in FIGURES or (word[0] == "-" and len(word) > 1):
            if not _is_number(word):
                raise BadText(place, "number")
            return ("number", number, int(word))
        if word in ("true", "false"):
            return ("truth", number, word == "true")
        if word == "hole" and kind == "E":
            return ("hole", number)
        if word == "_" and kind == "P":
            return ("any", number)
        return ("name", number, _name(item))

    def _new_number(self, item):
        if self.count == MOST_NODES:
            raise BadText(item[0], "nodes")
        self.count += 1
        return self.count - 1


def _head_and_parts(kind, item):
    """The word that tells the form of an item, and the items behind it."""
    parts = _parts_of(item)
    head = _first_word(parts)
    if kind in HEADLESS:
        if len(parts) == 4 and head == "when":
            return head, parts[1:]
        return kind, parts
    if (kind, head) not in FORMS:
        raise BadText(item[0], "form")
    return head, parts[1:]


def _ends(head, parts, many):
    """The else of a case or the seal of a module, in a list; an empty one without."""
    if head == "module":
        return parts[2:3] if many == 1 else []
    if head == "case" and many > 0 and not isinstance(parts[-1][1], str):
        return parts[-1:] if _first_word(parts[-1][1]) == "else" else []
    return []


def _node(head, number, worths):
    if head in OPERATORS:
        return ("op", number, head, *worths)
    if head == "functor":
        # The parameter and its signature have no bracket of their own in the tree.
        return (head, number, worths[0], *worths[1], *worths[2:])
    return (NODE_WORDS.get(head, head), number, *worths)


def _parts_of(item):
    if isinstance(item[1], str):
        raise BadText(item[0], "form")
    return item[1]


def _first_word(parts):
    """The first item where it is a word; no word is empty."""
    return parts[0][1] if parts and isinstance(parts[0][1], str) else ""


def _word_of(item):
    if not isinstance(item[1], str):
        raise BadText(item[0], "form")
    return item[1]


def _name(item):
    word = _word_of(item)
    if not is_name(word):
        raise BadText(item[0], "name")
    return word


def _is_switch(word):
    if not 1 <= len(word) <= 8 or word[0] not in CAPITALS:
        return False
    return consists_of(word, CAPITALS + SMALL + FIGURES)


def _is_number(word):
    figures = word[1:] if word[0] == "-" else word
    if not consists_of(figures, FIGURES) or len(figures) > 10:
        return False
    if figures[0] == "0" and word != "0":
        return False
    return int(figures) <= MOST_NUMBER
