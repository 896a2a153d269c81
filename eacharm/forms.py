"""The forms of programs' texts: what stands behind the first word of a bracket.

A kind of place is one of these: "name", "switch" and "mark" are words; "E" (an
expression), "P" (a pattern), "T" (a written one), "body", "item", "arm",
"maker", "top", "inner" and "any" are nodes, the last three declarations of the
top, of a struct and of either; a key of ROWS is a row; a key of GROUPS is a
bracket of its own around rows or nodes.
"""

# What stands behind the first word, by the kind of the place and that word.
FORMS = {
    ("E", "fn"): ("name", "E"),
    ("E", "app"): ("E", "E"),
    ("E", "let"): ("name", "E", "E"),
    ("E", "rec"): ("functions", "E"),
    ("E", "if"): ("E", "E", "E"),
    ("E", "+"): ("E", "E"),
    ("E", "-"): ("E", "E"),
    ("E", "<"): ("E", "E"),
    ("E", "="): ("E", "E"),
    ("E", "tuple"): (),
    ("E", "record"): (),
    ("E", "get"): ("name", "E"),
    ("E", "extend"): ("name", "E", "E"),
    ("E", "update"): ("name", "E", "E"),
    ("E", "without"): ("name", "E"),
    ("E", "tag"): ("name", "E"),
    ("E", "case"): ("E",),
    ("E", "make"): ("name", "E"),
    ("E", "match"): ("E",),
    ("E", "cell"): ("T", "E"),
    ("E", "read"): ("E",),
    ("E", "write"): ("E", "E"),
    ("E", "is"): ("E", "T"),
    ("E", "choose"): ("switch", "E", "E"),
    ("E", "mark"): ("mark", "E"),
    ("E", "member"): ("name", "name"),
    ("P", "tuple"): (),
    ("P", "record"): (),
    ("P", "make"): ("name", "P"),
    ("P", "choose"): ("switch", "P", "P"),
    ("T", "to"): ("T", "T"),
    ("T", "tuple"): (),
    ("T", "record"): (),
    ("T", "tags"): (),
    ("T", "of"): ("name",),
    ("T", "cell"): ("T",),
    ("T", "from"): ("name", "name"),
    ("T", "choose"): ("switch", "T", "T"),
    ("arm", "arm"): ("P", "E"),
    ("arm", "when"): ("switch", "arms", "arms"),
    ("maker", "maker"): ("name", "T"),
    ("maker", "when"): ("switch", "makers", "makers"),
    ("item", "hide"): ("name",),
    ("item", "val"): ("name", "letters", "T"),
    ("item", "when"): ("switch", "items", "items"),
    ("body", "struct"): (),
    ("body", "apply"): ("name", "name"),
    ("body", "choose"): ("switch", "body", "body"),
    ("top", "data"): ("name", "letters"),
    ("top", "def"): ("name", "E"),
    ("top", "defrec"): (),
    ("top", "sig"): ("name",),
    ("top", "module"): ("name", "body"),
    ("top", "functor"): ("name", "parameter", "inners", "items"),
    ("top", "when"): ("switch", "tops", "tops"),
    ("inner", "alias"): ("name", "T"),
    ("inner", "def"): ("name", "E"),
    ("inner", "defrec"): (),
    ("inner", "when"): ("switch", "inners", "inners"),
    ("any", "data"): ("name", "letters"),
    ("any", "def"): ("name", "E"),
    ("any", "defrec"): (),
    ("any", "sig"): ("name",),
    ("any", "module"): ("name", "body"),
    ("any", "functor"): ("name", "parameter", "inners", "items"),
    ("any", "alias"): ("name", "T"),
    ("any", "when"): ("switch", "anys", "anys"),
}

# What may follow behind that: (kind, least count, greatest count).
REPEATED = {
    ("E", "tuple"): ("E", 2, 4),
    ("E", "record"): ("field", 0, 8),
    ("E", "case"): ("case row", 1, 8),
    ("E", "match"): ("arm", 1, 8),
    ("P", "tuple"): ("P", 2, 4),
    ("P", "record"): ("field pattern", 0, 8),
    ("T", "tuple"): ("T", 2, 4),
    ("T", "record"): ("written field", 0, 8),
    ("T", "tags"): ("written field", 0, 8),
    ("T", "of"): ("T", 0, 3),
    ("body", "struct"): ("inner", 0, 30),
    ("top", "data"): ("maker", 1, 6),
    ("top", "defrec"): ("field", 1, 4),
    ("top", "sig"): ("item", 0, 30),
    ("inner", "defrec"): ("field", 1, 4),
    ("any", "data"): ("maker", 1, 6),
    ("any", "defrec"): ("field", 1, 4),
    ("any", "sig"): ("item", 0, 30),
}

# Rows that are no nodes.
ROWS = {
    "field": ("name", "E"),
    "field pattern": ("name", "P"),
    "written field": ("name", "T"),
    "case row": ("name", "name", "E"),
    "else row": ("else", "name", "E"),
    "parameter": ("name", "name"),
    "main": ("main", "E"),
}

# Brackets of their own: (kind of what stands inside, least count, greatest count).
GROUPS = {
    "letters": ("name", 0, 3),
    "functions": ("field", 1, 4),
    "arms": ("arm", 0, 8),
    "makers": ("maker", 0, 6),
    "items": ("item", 0, 30),
    "tops": ("top", 0, 30),
    "inners": ("inner", 0, 30),
    "anys": ("any", 0, 30),
}

OPERATORS = ("+", "-", "<", "=")

# The words of nodes where they are not the first words of the text.
NODE_WORDS = {"to": "arrow", "tags": "variant"}
