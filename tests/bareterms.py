"""Random programs of which little is known beforehand: bare expressions, and data.

`Programs` asks for a type and makes what has it; here expressions are put
together blindly, so that most have no typing and some have a strange one.
"""

from eacharm.trees import renumbered

NAMES = ("x", "y", "z", "f", "g")
WORDS = ("fn", "fn", "app", "app", "let", "let", "rec", "get", "extend", "update", "without", "tag", "case", "tuple",
         "if", "choose", "choose", "match", "mark", "record", "cell")


class BareTerms:
    def __init__(self, random, switches, marks):
        self.random = random
        self.switches = switches
        self.marks = list(marks)

    def program(self):
        count = self.random.randint(0, 2)
        marks, self.marks = self.marks, []
        rows = tuple(("def", 0, name, self.term(self.random.randint(3, 10), [])) for name in "fg"[:count])
        self.marks = marks
        main = self.term(self.random.randint(4, 22), list("fg"[:count]))
        return renumbered(("program", 0, rows, main))

    def term(self, size, scope):
        pick = self.random
        if size <= 1 or pick.random() < 0.05:
            if scope and pick.random() < 0.85:
                return ("name", 0, pick.choice(scope))
            return pick.choice([("number", 0, 1), ("truth", 0, True), ("hole", 0), ("record", 0, ())])
        rest = size - 1
        first = pick.randint(1, max(1, rest - 1))
        word = pick.choice(WORDS)
        if word in ("rec", "case", "match"):
            return getattr(self, word)(first, rest - first, scope)
        inside = lambda count, *names: self.term(count, [*scope, *names])
        name, label = pick.choice(NAMES), pick.choice("lm")
        if word == "choose":
            return (word, 0, pick.choice(self.switches), inside(first), inside(rest - first)) if self.switches else inside(rest)
        if word == "mark":
            return (word, 0, self.marks.pop(), inside(rest)) if self.marks else inside(rest)
        if word == "cell":
            return pick.choice([("read", 0, inside(rest)), ("write", 0, inside(first), inside(rest - first))])
        return {
            "fn": lambda: (word, 0, name, inside(rest, name)),
            "app": lambda: (word, 0, inside(first), inside(rest - first)),
            "let": lambda: (word, 0, name, inside(first), inside(rest - first, name)),
            "if": lambda: (word, 0, inside(1), inside(first), inside(rest - first)),
            "get": lambda: (word, 0, label, inside(rest)), "without": lambda: (word, 0, label, inside(rest)),
            "tag": lambda: (word, 0, label, inside(rest)),
            "extend": lambda: (word, 0, label, inside(first), inside(rest - first)),
            "update": lambda: (word, 0, label, inside(first), inside(rest - first)),
            "tuple": lambda: (word, 0, (inside(first), inside(rest - first))),
            "record": lambda: (word, 0, (("l", inside(first)), ("m", inside(rest - first)))),
        }[word]()

    def rec(self, first, rest, scope):
        names = self.random.sample(NAMES, self.random.choice([1, 1, 2]))
        rows = tuple((name, ("fn", 0, "z", self.term(max(1, first // len(names)), [*scope, *names, "z"]))) for name in names)
        return ("rec", 0, rows, self.term(rest, [*scope, *names]))

    def case(self, first, rest, scope):
        third = max(1, (first + rest) // 3)
        labels = self.random.sample("lm", self.random.randint(1, 2))
        rows = tuple((label, "x", self.term(third, [*scope, "x"])) for label in labels)
        other = ("z", self.term(third, [*scope, "z"])) if self.random.random() < 0.6 else None
        return ("case", 0, self.term(third, scope), rows, other)

    def match(self, first, rest, scope):
        bound = []
        pattern = self.pattern(2, bound)
        return ("match", 0, self.term(first, scope), (("arm", 0, pattern, self.term(rest, [*scope, *bound])),))

    def pattern(self, depth, bound):
        pick = self.random.random()
        inside = lambda: self.pattern(depth - 1, bound)
        if depth == 0 or pick < 0.4:
            free = [name for name in "abcx" if name not in bound]
            if not free:
                return ("any", 0)
            bound.append(self.random.choice(free))
            return ("name", 0, bound[-1])
        if pick < 0.6:
            return ("tuple", 0, (inside(), inside()))
        if pick < 0.8:
            return ("record", 0, (("l", inside()),))
        if pick < 0.9 and self.switches:
            return ("choose", 0, self.random.choice(self.switches), inside(), ("any", 0))
        return ("any", 0)


class BareData:
    """Programs of data that name one another and themselves."""

    def __init__(self, random, switches):
        self.random = random
        self.switches = switches
        self.known = []

    def program(self):
        rows = []
        for at in range(self.random.randint(1, 6)):
            row = self.data(at)
            if self.random.random() < 0.1:
                row = ("when", 0, self.random.choice(self.switches), (row,), ())
            rows.append(row)
        return renumbered(("program", 0, tuple(rows), ("hole", 0)))

    def data(self, at):
        name = f"d{at}" if self.random.random() < 0.95 else "d0"
        letters = self.random.choice([(), ("p",), ("p", "q"), ("p", "q", "s"), *[("p", "p")] * (self.random.random() < 0.1)])
        makers = []
        for k in range(self.random.randint(1, 3)):
            self.own = (name, len(letters))
            maker = ("maker", 0, f"c{at}{k}", self.written(self.random.randint(1, 3), letters))
            if self.random.random() < 0.2:
                groups = self.random.choice([((maker,), ()), ((), (maker,))])
                maker = ("when", 0, self.random.choice(self.switches), *groups)
            makers.append(maker)
        self.known.append(self.own)
        return ("data", 0, name, letters, tuple(makers))

    def written(self, depth, letters):
        inside = lambda *_: self.written(depth - 1, letters)
        if depth == 0 or self.random.random() < 0.25:
            return self.random.choice([("int", 0), ("bool", 0), *[("named", 0, letter) for letter in letters] * 2])
        word = self.random.choice(["choose", "tuple", "record", "variant", "variant", "arrow", "cell", "of", "of", "of"])
        if word == "choose":
            return (word, 0, self.random.choice(self.switches), inside(), inside())
        if word == "tuple":
            return (word, 0, (inside(), inside()))
        if word in ("record", "variant"):
            return (word, 0, tuple((label, inside()) for label in self.random.sample("lmn", self.random.randint(0, 2))))
        if word == "arrow":
            return (word, 0, inside(), inside())
        if word == "cell":
            return (word, 0, inside())
        name, many = self.random.choice([*self.known, self.own, self.own])
        return (word, 0, name, tuple(map(inside, range(many + (self.random.random() < 0.02)))))
