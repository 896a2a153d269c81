"""Trees for tests: the forms of 2.2 to 2.5 written out, random programs, slow readings.

The program finds nodes without knowing the forms; here each form is told, so
that both ways can be compared.
"""

# What stands behind the number of a node. Capital letters and longer words
# stand for what is inside; the others for names, numbers and the like.
FORMS = {
    "program": {"program": ("decls", "E")},
    "expression": {
        "name": ("x",), "number": ("k",), "truth": ("b",), "hole": (), "fn": ("x", "E"),
        "app": ("E", "E"), "let": ("x", "E", "E"), "rec": ("functions", "E"),
        "if": ("E", "E", "E"), "op": ("sign", "E", "E"), "tuple": ("Es",), "record": ("fields",),
        "get": ("x", "E"), "extend": ("x", "E", "E"), "update": ("x", "E", "E"),
        "without": ("x", "E"), "tag": ("x", "E"), "case": ("E", "cases", "rest"),
        "make": ("x", "E"), "match": ("E", "arms"), "cell": ("T", "E"), "read": ("E",),
        "write": ("E", "E"), "is": ("E", "T"), "choose": ("A", "E", "E"), "mark": ("mark", "E"),
        "member": ("x", "x"),
    },
    "arm": {"arm": ("P", "E"), "when": ("A", "arms", "arms")},
    "pattern": {
        "any": (), "name": ("x",), "number": ("k",), "truth": ("b",), "tuple": ("Ps",),
        "record": ("patterns",), "make": ("x", "P"), "choose": ("A", "P", "P"),
    },
    "written": {
        "int": (), "bool": (), "arrow": ("T", "T"), "tuple": ("Ts",), "record": ("types",),
        "variant": ("types",), "of": ("x", "types_of"), "cell": ("T",), "named": ("x",),
        "from": ("x", "x"), "choose": ("A", "T", "T"),
    },
    "declaration": {
        "data": ("x", "letters", "makers"), "def": ("x", "E"), "defrec": ("functions",),
        "sig": ("x", "items"), "module": ("x", "body", "seal"),
        "functor": ("x", "x", "x", "inner", "items"), "alias": ("x", "T"),
        "when": ("A", "decls", "decls"),
    },
    "maker": {"maker": ("x", "T"), "when": ("A", "makers", "makers")},
    "item": {"hide": ("x",), "val": ("x", "letters", "T"), "when": ("A", "items", "items")},
    "body": {"struct": ("inner",), "apply": ("x", "x"), "choose": ("A", "body", "body")},
}
ONE = {"E": "expression", "P": "pattern", "T": "written", "body": "body"}
GROUPS = {"decls": "declaration", "inner": "declaration", "arms": "arm", "makers": "maker",
          "items": "item"}
MANY = {"Es": "expression", "Ps": "pattern", "Ts": "written", "types_of": "written"}
ROWS = {"functions": "expression", "fields": "expression", "patterns": "pattern",
        "types": "written", "cases": "expression"}
LEAVES = {"expression": ("name", "number", "truth", "hole", "member"), "pattern": ("any", "name"),
          "written": ("int", "bool", "named"), "declaration": ("def",), "arm": ("arm",),
          "maker": ("maker",), "item": ("hide", "val"), "body": ("struct", "apply")}
TOP = ("data", "def", "defrec", "sig", "module", "functor", "when")
INNER = ("alias", "def", "defrec", "when")
EDITS = tuple(f"e{k}" for k in range(1, 10))


def parts(node, sort):
    """The pairs (sort, inner node) in reading order."""
    found = []
    for kind, thing in zip(FORMS[sort][node[0]], node[2:]):
        if kind in ONE:
            found.append((ONE[kind], thing))
        elif kind in GROUPS or kind in MANY:
            found.extend((GROUPS.get(kind) or MANY[kind], inner) for inner in thing)
        elif kind in ROWS:
            found.extend((ROWS[kind], row[-1]) for row in thing)
        elif kind == "rest" and thing is not None:
            found.append(("expression", thing[1]))
    return found


def sorted_nodes(node, sort="program"):
    """The pairs (sort, node) of the node and everything inside it, in reading order."""
    found = [(sort, node)]
    for inner_sort, inner in parts(node, sort):
        found.extend(sorted_nodes(inner, inner_sort))
    return found


def rebuilt(node, sort, make, rows):
    """The node with `make(inner, sort)` inside and `rows(group, sort)` for its groups."""
    made = [node[0], node[1]]
    for kind, thing in zip(FORMS[sort][node[0]], node[2:]):
        if kind in ONE:
            thing = make(thing, ONE[kind])
        elif kind in GROUPS:
            thing = rows(thing, GROUPS[kind])
        elif kind in MANY:
            thing = tuple(make(inner, MANY[kind]) for inner in thing)
        elif kind in ROWS:
            thing = tuple((*row[:-1], make(row[-1], ROWS[kind])) for row in thing)
        elif kind == "rest" and thing is not None:
            thing = (thing[0], make(thing[1], "expression"))
        made.append(thing)
    return tuple(made)


def chosen_slowly(node, setting, sort="program"):
    if node[0] == "choose":
        return chosen_slowly(node[3] if node[2] in setting else node[4], setting, sort)

    def rows(group, group_sort):
        done = []
        for row in group:
            if row[0] == "when":
                done.extend(rows(row[3] if row[2] in setting else row[4], group_sort))
            else:
                done.append(chosen_slowly(row, setting, group_sort))
        return tuple(done)

    return rebuilt(node, sort, lambda inner, s: chosen_slowly(inner, setting, s), rows)


def kept_slowly(node, marks, sort="program"):
    if node[0] == "mark":
        return kept_slowly(node[3], marks, sort) if node[2] in marks else ("hole", node[1])
    make = lambda inner, s: kept_slowly(inner, marks, s)
    return rebuilt(node, sort, make, lambda group, s: tuple(make(row, s) for row in group))


class Trees:
    """Makes random programs whose numbers stand in no order."""

    def __init__(self, random, switches=("A", "B", "C"), marks=(1, 2, 3)):
        self.random = random
        self.switches = switches
        self.marks = list(marks)
        self.numbers = list(range(1, 4000))
        random.shuffle(self.numbers)

    def program(self, many=3, depth=3):
        declarations = tuple(self.declaration(TOP, depth) for _ in range(many))
        return ("program", 0, declarations, self.node("expression", depth))

    def node(self, sort, depth):
        words = [word for word in FORMS[sort] if word not in ("choose", "when", "mark")]
        if depth <= 0:
            words = LEAVES[sort]
        elif self.random.random() < 0.25:
            words = [w for w in FORMS[sort] if w in ("choose", "when")] or words
        elif sort == "expression" and self.marks and self.random.random() < 0.15:
            words = ["mark"]
        return self.of_word(sort, self.random.choice(words), depth)

    def declaration(self, words, depth):
        word = self.random.choice(words if depth > 0 else ("def",))
        return self.of_word("declaration", word, depth, words)

    def of_word(self, sort, word, depth, words=TOP):
        number = self.numbers.pop()
        fields = []
        for kind in FORMS[sort][word]:
            fields.append(self.field(sort, kind, depth - 1, words))
        return (word, number, *fields)

    def field(self, sort, kind, depth, words):
        chance = self.random
        if kind in ONE:
            return self.node(ONE[kind], depth)
        if kind in MANY:
            many = chance.randint(2, 3) if kind != "types_of" else chance.randint(0, 3)
            return tuple(self.node(MANY[kind], depth) for _ in range(many))
        if kind in GROUPS:
            return self.group(kind, depth, words)
        if kind in ROWS:
            count = chance.randint(0 if kind in ("fields", "patterns", "types") else 1, 2)
            first = lambda: (self.name(), self.name()) if kind == "cases" else (self.name(),)
            return tuple((*first(), self.node(ROWS[kind], depth)) for _ in range(count))
        return {
            "x": self.name, "k": lambda: chance.randint(-5, 5), "b": lambda: chance.random() < 0.5,
            "sign": lambda: chance.choice("+-<="), "A": lambda: chance.choice(self.switches),
            "mark": self.marks.pop, "seal": lambda: chance.choice([None, self.name()]),
            "letters": lambda: tuple(self.name() for _ in range(chance.randint(0, 3))),
            "rest": lambda: chance.choice([None, (self.name(), self.node("expression", depth))]),
        }[kind]()

    def group(self, kind, depth, words):
        many = self.random.randint(0, 2)
        if GROUPS[kind] == "declaration":
            words = INNER if kind == "inner" else words
            return tuple(self.declaration(words, depth) for _ in range(many))
        return tuple(self.node(GROUPS[kind], depth) for _ in range(many))

    def name(self):
        return self.random.choice(["x", "choose", "when", "mark", "f1", "name", "lab", "z"])


# A program with a choose or a when at every kind of place, and marks in marks.
PLACES = (
    "program", 0, (
        ("data", 1, "d", ("a",), (
            ("maker", 2, "c", ("choose", 3, "A", ("int", 4), ("of", 5, "d", (("named", 6, "a"),)))),
            ("when", 7, "A", (("maker", 8, "e", ("bool", 9)),), ()),
        )),
        ("when", 10, "B", (("def", 11, "g", ("number", 12, 1)), ("def", 13, "h", ("hole", 14))), (
            ("when", 15, "A", (("def", 16, "g", ("truth", 17, True)),), ()),)),
        ("sig", 18, "s", (
            ("hide", 19, "t"),
            ("when", 20, "A", (("val", 21, "x", ("a",), ("named", 22, "a")),), (("hide", 23, "u"),)),
        )),
        ("functor", 24, "f", "y", "s", (
            ("alias", 25, "t", ("int", 26)),
            ("when", 27, "B", (("alias", 28, "t", ("bool", 29)),), ()),
        ), (("when", 30, "A", (), (("hide", 31, "t"),)),)),
        ("module", 32, "m", ("choose", 33, "A", ("apply", 34, "f", "n"), (
            "struct", 35, (("when", 36, "B", (("def", 37, "x", ("hole", 38)),), ()),))), None),
        ("defrec", 39, (("p", ("fn", 40, "x", ("choose", 41, "B", ("name", 42, "x"), (
            "mark", 43, 1, ("number", 44, 2))))),)),
    ),
    ("match", 45, ("choose", 46, "A", ("choose", 47, "A", ("number", 48, 1), ("number", 49, 2)), (
        "mark", 50, 2, ("mark", 51, 3, ("choose", 52, "B", ("truth", 53, False), ("hole", 54))))), (
        ("arm", 55, ("choose", 56, "B", ("number", 57, 0), ("any", 58)), ("name", 59, "z")),
        ("when", 60, "B", (("when", 61, "A", (("arm", 62, ("any", 63), ("hole", 64)),), ()),), (
            ("arm", 65, ("name", 66, "w"), ("case", 67, ("name", 68, "w"), (
                ("l", "x", ("choose", 69, "C", ("name", 70, "x"), ("name", 71, "w"))),
            ), ("z", ("mark", 72, 4, ("name", 73, "z"))))),)),
    )),
)
