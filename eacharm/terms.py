"""Terms and schemes: letters, instances and texts."""

from eacharm.errors import BadSchemeText
from eacharm.schemeparts import scheme_parts

MOST_SIGNS = 4000
ROWED = ("record", "variant", "row")


def letters_in(term):
    """The letters of a term or a row, in the order in which they are first seen."""
    return tuple({letter: True for letter, _ in _sights(term)})


def row_letters_in(term):
    """The row letters of a term or a row, in the order in which they are first seen."""
    return tuple({letter: True for letter, is_tail in _sights(term) if is_tail})


def scheme_of(term, lacks=None):
    """The scheme of a term whose row letters lack the given labels."""
    numbers = {letter: at for at, letter in enumerate(letters_in(term))}
    known = all_lacks(term, lacks)
    pairs = [(numbers[letter], known[letter]) for letter in known]
    return relettered(term, numbers), tuple(sorted(pairs))


def is_instance(term, scheme, lacks=None):
    """Tells whether the term is an instance of the scheme."""
    general, asked = scheme
    return _fits(general, term, dict(asked), all_lacks(term, lacks))


def more_general(scheme, other):
    """Tells whether the term of the other scheme is an instance of the scheme."""
    return is_instance(other[0], scheme, dict(other[1]))


def term_text(term):
    """The text of a term."""
    word = term[0]
    if word == "letter":
        return f"?{term[1]}"
    if word == "arrow":
        return f"(to {term_text(term[1])} {term_text(term[2])})"
    if word == "data":
        return _bracket(["of", term[1], *_texts(term[2])])
    if word == "hidden":
        return f"(from {term[1]} {term[2]})"
    if word == "tuple":
        return _bracket(["tuple", *_texts(term[1])])
    if word in ROWED:
        return _row_text(term)
    if word == "cell":
        return f"(cell {term_text(term[1])})"
    return f"(stone {term[1]})" if word == "stone" else word


def scheme_text(scheme):
    """The text of a scheme."""
    term, lacks = scheme
    words = ["scheme", term_text(term)]
    for letter, labels in lacks:
        words.append(_bracket(["lacks", str(letter), *labels]))
    return _bracket(words)


def read_scheme(text):
    """The scheme whose text it is; raises BadSchemeText for any other text."""
    if len(text) > MOST_SIGNS:
        raise BadSchemeText()
    term, lacks = scheme_parts(text)
    scheme = (term, lacks)
    if scheme_text(scheme) != text or scheme_of(term, dict(lacks)) != scheme:
        raise BadSchemeText()
    rows = row_letters_in(term)
    if any([letter in rows for letter, is_tail in _sights(term) if not is_tail]):
        raise BadSchemeText()
    return scheme


def term_parts(term):
    """The terms directly inside a term or a row, from left to right."""
    word = term[0]
    if word == "arrow":
        return term[1:]
    if word == "tuple":
        return term[1]
    if word == "data":
        return term[2]
    if word == "cell":
        return term[1:]
    if word in ROWED:
        return tuple([field for _, field in term[1]])
    return ()


def with_parts(term, parts):
    """The term with other terms in the places of those directly inside it."""
    word = term[0]
    if word in ("arrow", "cell"):
        return (word, *parts)
    if word == "tuple":
        return (word, tuple(parts))
    if word == "data":
        return (word, term[1], tuple(parts))
    if word in ROWED:
        labels = [label for label, _ in term[1]]
        return (word, tuple(list(zip(labels, parts))), term[2])
    return term


def relettered(term, numbers):
    """The term or row with other letters in the place of those that are keys."""
    if term[0] == "letter":
        return ("letter", numbers.get(term[1], term[1]))
    parts = []
    for part in term_parts(term):
        parts.append(relettered(part, numbers))
    done = with_parts(term, parts)
    if done[0] in ROWED and done[2] is not None:
        return (done[0], done[1], numbers.get(done[2], done[2]))
    return done


def all_lacks(term, lacks=None):
    """The labels that each row letter of a term lacks, those beside it included."""
    found = {letter: {} for letter in row_letters_in(term)}
    work = [term]
    while work:
        part = work.pop()
        work.extend(term_parts(part))
        if part[0] in ROWED and part[2] is not None:
            found[part[2]].update({label: True for label, _ in part[1]})
    if lacks is not None:
        for letter in list(found):
            found[letter].update({label: True for label in lacks.get(letter, ())})
    return {letter: tuple(sorted(found[letter])) for letter in found}


def _sights(term):
    """Each sight of a letter, from left to right: (letter, whether it is a tail)."""
    sights = []
    work = [term]
    while work:
        part = work.pop()
        if part[0] == "letter":
            sights.append((part[1], False))
        elif part[0] == "tail":
            sights.append((part[1], True))
        else:
            if part[0] in ROWED and part[2] is not None:
                work.append(("tail", part[2]))
            work.extend(term_parts(part)[::-1])
    return sights


def _fits(general, term, asked, known):
    """Whether letters of the first term can be replaced to give the second one.

    `asked` tells what the row letters of the first lack, `known` those of the second.
    """
    replaced = {}
    work = [(general, term)]
    while work:
        left, right = work.pop()
        word = left[0]
        if word == "letter":
            if replaced.setdefault(left[1], right) != right:
                return False
        elif word in ROWED:
            row = _row_pairs(left, right)
            if row is None or not _row_fits(left[2], row[0], replaced, asked, known):
                return False
            work.extend(row[1])
        else:
            if not same_head(left, right):
                return False
            work.extend(list(zip(term_parts(left), term_parts(right))))
    return True


def same_head(left, right):
    """Whether two terms that are no letters and no rows differ at most in their parts."""
    if left[0] != right[0] or len(term_parts(left)) != len(term_parts(right)):
        return False
    if left[0] in ("data", "hidden", "stone"):
        return left[1] == right[1] and (left[0] != "hidden" or left[2] == right[2])
    return True


def _row_pairs(left, right):
    """The rest of the right row and the pairs of fields; None if one has no partner."""
    if left[0] != right[0]:
        return None
    fields = dict(right[1])
    pairs = []
    for label, field in left[1]:
        if label not in fields:
            return None
        pairs.append((field, fields.pop(label)))
    rest = tuple([(label, field) for label, field in right[1] if label in fields])
    return ("row", rest, right[2]), pairs


def _row_fits(tail, row, replaced, asked, known):
    """Whether the tail can be replaced by the row; without a tail none may be left."""
    if tail is None:
        return row == ("row", (), None)
    if tail in replaced:
        return replaced[tail] == row
    replaced[tail] = row
    lacking = asked[tail]
    if any([label in lacking for label, _ in row[1]]):
        return False
    return row[2] is None or all([label in known[row[2]] for label in lacking])


def _texts(terms):
    return [term_text(term) for term in terms]


def _bracket(words):
    return "(" + " ".join(words) + ")"


def _row_text(term):
    words = ["tags" if term[0] == "variant" else term[0]]
    words.extend([f"({label} {term_text(field)})" for label, field in term[1]])
    if term[2] is not None:
        words.append(f"| ?{term[2]}")
    return _bracket(words)
