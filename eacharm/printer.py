"""The printer: from trees to texts."""

PLAIN = {"hole": "hole", "any": "_", "int": "int", "bool": "bool"}
ONE_WORD = ("name", "number", "named")
HEADS = {"arrow": "to", "variant": "tags"}
HEADLESS = ("arm", "maker")


def program_text(program):
    """The text of a program."""
    return _bracket(["program", *_texts(program[2]), _bracket(["main", node_text(program[3])])])


def node_text(node):
    """The text of any node."""
    word = node[0]
    if word == "program":
        return program_text(node)
    if word in PLAIN:
        return PLAIN[word]
    if word in ONE_WORD:
        return str(node[2])
    if word == "truth":
        return "true" if node[2] else "false"
    if word in HEADLESS:
        return _bracket(_texts(node[2:]))
    if word == "op":
        return _bracket([node[2], *_texts(node[3:])])
    return _bracket([HEADS.get(word, word), *_inner_texts(node)])


def _inner_texts(node):
    """The texts behind the first word of a form."""
    word = node[0]
    if word in ("tuple", "struct", "record", "variant", "defrec"):
        return _texts(node[2])
    if word in ("match", "sig", "of"):
        return [_text(node[2]), *_texts(node[3])]
    if word == "data":
        return [node[2], _text(node[3]), *_texts(node[4])]
    if word == "module":
        texts = [node[2], node_text(node[3])]
        return texts if node[4] is None else [*texts, node[4]]
    if word == "functor":
        return [node[2], _bracket([node[3], node[4]]), _text(node[5]), _text(node[6])]
    if word == "case":
        texts = [node_text(node[2]), *_texts(node[3])]
        return texts if node[4] is None else [*texts, _bracket(["else", *_texts(node[4])])]
    return _texts(node[2:])


def _texts(parts):
    return [_text(part) for part in parts]


def _text(part):
    """The text of a word, a mark, a node, a row or a group."""
    if isinstance(part, str):
        return part
    if isinstance(part, int):
        return str(part)
    if len(part) >= 2 and isinstance(part[1], int):
        return node_text(part)
    return _bracket(_texts(part))


def _bracket(texts):
    return "(" + " ".join(texts) + ")"
