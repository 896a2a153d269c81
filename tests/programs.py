"""Random programs that mostly keep to their names and types, with choices and marks.

A type in a maker is a written type without numbers: ("int",), ("arrow", a, b),
("tuple", (..)), ("record", ((l, t), ..)), ("variant", ..), ("cell", t),
("of", d, (..)), ("named", t), ("from", m, t).
"""

INT, BOOL = ("int",), ("bool",)
NAMES = ("x", "y", "z", "f", "g", "h")
LABELS = ("l", "m", "n")


class Programs:
    """`wild` is the chance of something that does not fit."""

    def __init__(self, random, switches=("A", "B"), marks=(1, 2), wild=0.03, choices=0.1, modules=True):
        self.random = random
        self.switches = switches
        self.marks = list(marks)
        self.wild = wild
        self.choices = choices if switches else 0
        self.modules = modules
        self.datas = {}
        self.views = {}
        self.functors = {}
        self.sigs = {}

    def program(self, many=3, depth=4):
        scope = {}
        rows = tuple(row for _ in range(many) for row in self.top(scope, depth))
        main = self.expression(self.wanted(1), scope, depth)
        return self.numbered(("program", 0, rows, main))

    def numbered(self, tree):
        """The tree with numbers in reading order, or in no order."""
        count = str(tree).count(", 0") + 1
        numbers = list(range(1, count + 1))
        if self.random.random() < 0.3:
            self.random.shuffle(numbers)
        numbers = iter(numbers)

        def walk(thing):
            if not isinstance(thing, tuple):
                return thing
            if len(thing) > 1 and isinstance(thing[0], str) and thing[1] is NUMBER:
                return (thing[0], next(numbers), *map(walk, thing[2:]))
            return tuple(map(walk, thing))

        return ("program", 0, *map(walk, tree[2:]))

    def chance(self, part):
        return self.random.random() < part

    def pick(self, things):
        return self.random.choice(list(things))

    def name(self):
        return self.pick(NAMES)

    def switch(self):
        return self.pick(self.switches)

    # Types.

    def wanted(self, depth=2):
        """A type that is asked for, without letters."""
        words = ["int", "bool"]
        if depth > 0:
            words += ["arrow", "tuple", "record", "variant", "cell", *["of"] * (2 if self.datas else 0)]
            words += ["from"] if any(view["types"] for view in self.views.values()) else []
        word = self.pick(words)
        less = lambda: self.wanted(depth - 1)
        if word in ("int", "bool"):
            return (word,)
        if word == "arrow":
            return (word, less(), less())
        if word == "tuple":
            return (word, tuple(less() for _ in range(self.random.randint(2, 3))))
        if word in ("record", "variant"):
            least = 0 if word == "record" and self.chance(0.2) else 1
            labels = self.random.sample(LABELS, self.random.randint(least, 2))
            return (word, tuple((label, less()) for label in labels))
        if word == "cell":
            return (word, less())
        if word == "from":
            module = self.pick(m for m in self.views if self.views[m]["types"])
            return ("from", module, self.pick(self.views[module]["types"]))
        data = self.pick(self.datas)
        return ("of", data, tuple(less() for _ in self.datas[data][0]))

    def written(self, wanted):
        """The written type, sometimes under a choice or another one."""
        if self.chance(self.choices / 3):
            return ("choose", NUMBER, self.switch(), self.written(wanted), self.written(wanted))
        if self.chance(self.wild / 2):
            wanted = self.pick([INT, BOOL, ("named", "u"), ("of", "nodata", ())])
        word = wanted[0]
        if word in ("record", "variant"):
            return (word, NUMBER, tuple((label, self.written(part)) for label, part in wanted[1]))
        if word == "tuple":
            return (word, NUMBER, tuple(self.written(part) for part in wanted[1]))
        if word == "of":
            return (word, NUMBER, wanted[1], tuple(self.written(part) for part in wanted[2]))
        if word in ("arrow", "cell"):
            return (word, NUMBER, *[self.written(part) for part in wanted[1:]])
        return (word, NUMBER, *wanted[1:])

    # Expressions. A scope has for each name its type, or None where it is not known.

    def expression(self, wanted, scope, depth):
        if self.chance(self.wild):
            wanted = self.wanted()
        if depth > 0 and self.chance(self.choices):
            sides = [self.expression(wanted, scope, depth - 1) for _ in range(2)]
            return ("choose", NUMBER, self.switch(), *sides)
        if depth > 0 and self.marks and self.chance(0.05):
            return ("mark", NUMBER, self.marks.pop(), self.expression(wanted, scope, depth - 1))
        known = [name for name in scope if scope[name] in (wanted, None)]
        if known and self.chance(0.35):
            return ("name", NUMBER, self.pick(known))
        if self.chance(self.wild / 3):
            return ("name", NUMBER, self.name())
        members = [(m, x) for m, view in self.views.items() for x, t in view["values"] if t in (wanted, None)]
        if members and self.chance(0.3):
            return ("member", NUMBER, *self.pick(members))
        if depth > 0 and self.chance(0.5):
            return self.around(wanted, scope, depth - 1)
        return self.plain(wanted, scope, depth - 1)

    def plain(self, wanted, scope, depth):
        """An expression made of what the type asks for."""
        word = wanted[0]
        inside = lambda t: self.expression(t, scope, depth)
        if depth < -3 or word in ("named", "from") or self.chance(0.02):
            return ("hole", NUMBER)
        if word == "int":
            if depth > 0 and self.chance(0.4):
                return ("op", NUMBER, self.pick("+-"), inside(INT), inside(INT))
            return ("number", NUMBER, self.random.randint(-2, 3))
        if word == "bool":
            if depth > 0 and self.chance(0.4):
                return ("op", NUMBER, self.pick("<="), inside(INT), inside(INT))
            return ("truth", NUMBER, self.chance(0.5))
        if word == "arrow":
            name = self.name()
            return ("fn", NUMBER, name, self.expression(wanted[2], {**scope, name: wanted[1]}, depth))
        if word == "tuple":
            return (word, NUMBER, tuple(map(inside, wanted[1])))
        if word == "record":
            return self.record(dict(wanted[1]), scope, depth)
        if word == "variant":
            label, content = self.pick(wanted[1])
            return ("tag", NUMBER, label, inside(content))
        if word == "cell":
            return (word, NUMBER, self.written(wanted[1]), inside(wanted[1]))
        letters, makers = self.datas.get(wanted[1], ((), ()))
        if not makers:
            return ("hole", NUMBER)
        maker, content = self.pick(makers)
        return ("make", NUMBER, maker, inside(put_in(content, dict(zip(letters, wanted[2])))))

    def record(self, fields, scope, depth):
        inside = lambda t: self.expression(t, scope, depth)
        pick = self.random.random()
        if not fields:
            return ("record", NUMBER, ())
        label = self.pick(fields)
        if depth > 0 and pick < 0.2:
            rest = tuple((l, fields[l]) for l in fields if l != label)
            return ("extend", NUMBER, label, inside(fields[label]), inside(("record", rest)))
        if depth > 0 and pick < 0.35:
            return ("update", NUMBER, label, inside(fields[label]), inside(("record", tuple(fields.items()))))
        more = [l for l in LABELS if l not in fields]
        if depth > 0 and more and pick < 0.5:
            wide = {**fields, more[0]: INT}
            return ("without", NUMBER, more[0], inside(("record", tuple(wide.items()))))
        labels = self.random.sample(list(fields), len(fields))
        if self.chance(self.wild):
            labels.append(labels[0])
        return ("record", NUMBER, tuple((l, inside(fields[l])) for l in labels))

    def around(self, wanted, scope, depth):
        """An expression that has the type through something else."""
        inside = lambda t, more={}: self.expression(t, {**scope, **more}, depth)
        word = self.pick(["app", "let", "poly", "rec", "if", "get", "case", "match", "match", "read", "is"])
        other, name = self.wanted(1), self.name()
        if word == "app":
            return ("app", NUMBER, inside(("arrow", other, wanted)), inside(other))
        if word == "let" and self.chance(0.2):
            side = ("write", NUMBER, inside(("cell", other)), inside(other))
            return ("let", NUMBER, name, side, inside(wanted, {name: ("record", ())}))
        if word == "let":
            return ("let", NUMBER, name, inside(other), inside(wanted, {name: other}))
        if word == "poly":
            return self.poly(wanted, scope, depth)
        if word == "rec":
            arrow = ("arrow", other, wanted)
            rows = [(n, self.function(arrow, {**scope, name: arrow}, depth))
                    for n in [name, *[self.name()] * self.chance(0.2)]]
            return ("rec", NUMBER, tuple(rows), inside(wanted, {name: arrow}))
        if word == "if":
            return ("if", NUMBER, inside(BOOL), inside(wanted), inside(wanted))
        if word == "get":
            fields = {label: self.wanted(0) for label in self.random.sample(LABELS, 2)}
            fields[self.pick(fields)] = wanted
            label = next(l for l in fields if fields[l] == wanted)
            return ("get", NUMBER, label, inside(("record", tuple(fields.items()))))
        if word == "case":
            return self.case(wanted, scope, depth)
        if word == "match":
            return self.match(wanted, scope, depth)
        if word == "read":
            return ("read", NUMBER, inside(("cell", wanted)))
        if wanted == ("record", ()) and self.chance(0.7):
            return ("write", NUMBER, inside(("cell", other)), inside(other))
        return ("is", NUMBER, inside(wanted), self.written(wanted))

    def function(self, arrow, scope, depth):
        if self.chance(self.wild):
            return self.expression(arrow, scope, depth)
        if depth > 0 and self.chance(self.choices):
            return ("choose", NUMBER, self.switch(), *[self.function(arrow, scope, depth - 1) for _ in "ab"])
        if self.marks and self.chance(0.1):
            return ("mark", NUMBER, self.marks.pop(), self.function(arrow, scope, depth))
        if self.chance(0.1):
            return ("hole", NUMBER)
        name = self.name()
        return ("fn", NUMBER, name, self.expression(arrow[2], {**scope, name: arrow[1]}, depth))

    def free(self, scope, depth):
        """A right side of a let that can be used at several types."""
        x, held = self.name(), self.plain(self.wanted(0), scope, 0)
        if scope and self.chance(0.8):
            held = ("name", NUMBER, self.pick(scope))
        own = ("name", NUMBER, x)
        body = self.pick([
            own, own, ("tuple", NUMBER, (own, held)), ("tuple", NUMBER, (own, own)),
            ("get", NUMBER, self.pick(LABELS), own), ("without", NUMBER, self.pick(LABELS), own),
            ("extend", NUMBER, self.pick(LABELS), held, own), ("update", NUMBER, self.pick(LABELS), held, own),
            ("tag", NUMBER, self.pick(LABELS), own), ("app", NUMBER, own, held),
            ("case", NUMBER, own, ((self.pick(LABELS), "x", ("number", NUMBER, 1)),),
             self.pick([None, ("z", ("number", NUMBER, 2)), ("z", ("case", NUMBER, ("name", NUMBER, "z"), (
                 (self.pick(LABELS), "y", ("number", NUMBER, 3)),), None))])),
            ("let", NUMBER, "h", ("tuple", NUMBER, (own, held)), ("name", NUMBER, "h")),
            ("fn", NUMBER, "y", ("if", NUMBER, ("truth", NUMBER, True), own, ("name", NUMBER, "y"))),
        ])
        if depth > 0 and self.chance(self.choices * 2):
            return ("choose", NUMBER, self.switch(), ("fn", NUMBER, x, body), self.free(scope, depth - 1))
        return ("fn", NUMBER, x, body)

    def poly(self, wanted, scope, depth):
        name = self.pick(("f", "g"))
        side = self.expression(wanted, {**scope, name: None}, depth)
        if self.chance(0.5):
            side = ("let", NUMBER, "x", ("app", NUMBER, ("name", NUMBER, name), ("number", NUMBER, 1)), side)
        if self.chance(0.3):
            return ("rec", NUMBER, ((name, self.free(scope, depth)),), side)
        return ("let", NUMBER, name, self.free(scope, depth), side)

    def case(self, wanted, scope, depth):
        labels = self.random.sample(LABELS, self.random.randint(1, 2))
        fields = {label: self.wanted(0) for label in labels}
        asked = self.expression(("variant", tuple(fields.items())), scope, depth)
        rest = None
        if self.chance(0.4):
            rest = ("z", self.expression(wanted, scope, depth))
            labels = labels[:1]
        rows = []
        for label in labels:
            name = self.name()
            rows.append((label, name, self.expression(wanted, {**scope, name: fields[label]}, depth)))
        return ("case", NUMBER, asked, tuple(rows), rest)

    def match(self, wanted, scope, depth):
        other = self.wanted(2)
        asked = self.expression(other, scope, depth)
        arms = self.arms(other, wanted, scope, depth, self.random.randint(1, 3))
        if self.chance(0.5) or not arms:
            arms += (("arm", NUMBER, ("any", NUMBER), self.expression(wanted, scope, depth - 1)),)
        return ("match", NUMBER, asked, arms)

    def arms(self, other, wanted, scope, depth, many):
        rows = []
        for _ in range(many):
            if depth > 0 and self.chance(self.choices):
                groups = [self.arms(other, wanted, scope, depth - 1, self.random.randint(0, 2)) for _ in "ab"]
                rows.append(("when", NUMBER, self.switch(), *groups))
            else:
                bound = {}
                pattern = self.pattern(other, bound, 3)
                rows.append(("arm", NUMBER, pattern, self.expression(wanted, {**scope, **bound}, depth - 1)))
        return tuple(rows)

    def pattern(self, wanted, bound, depth):
        inside = lambda t: self.pattern(t, bound, depth - 1)
        if self.chance(self.choices):
            return ("choose", NUMBER, self.switch(), inside(wanted), inside(wanted))
        if self.chance(self.wild):
            wanted = self.wanted(1)
        word, pick = wanted[0], self.random.random()
        if depth <= 0 or pick < 0.35 or word in ("arrow", "variant", "cell", "named", "from"):
            if pick < 0.15:
                return ("any", NUMBER)
            name = self.name()
            if name in bound and not self.chance(self.wild):
                return ("any", NUMBER)
            bound[name] = wanted
            return ("name", NUMBER, name)
        if word == "int":
            return ("number", NUMBER, self.random.randint(-1, 2))
        if word == "bool":
            return ("truth", NUMBER, self.chance(0.5))
        if word == "tuple":
            return (word, NUMBER, tuple(map(inside, wanted[1])))
        if word == "record":
            rows = self.random.sample(list(wanted[1]), self.random.randint(0, len(wanted[1])))
            return (word, NUMBER, tuple((label, inside(part)) for label, part in rows))
        letters, makers = self.datas.get(wanted[1], ((), ()))
        if not makers:
            return ("any", NUMBER)
        maker, content = self.pick(makers)
        return ("make", NUMBER, maker, inside(put_in(content, dict(zip(letters, wanted[2])))))

    # Declarations: each gives a tuple of rows and changes the scope.

    def top(self, scope, depth):
        if self.chance(self.choices):
            return self.top_when(scope, depth)
        kinds = ["def", "def", "free", "defrec", "data"]
        if self.modules:
            kinds += ["module"] * 2 + ["functor"] * 3 * bool(self.sigs) + ["apply"] * 6 * bool(self.functors)
        kind = self.pick(kinds)
        if kind == "data":
            return self.data()
        if kind == "module":
            return self.module(scope, depth)
        if kind == "functor":
            return self.functor(scope, depth)
        if kind == "apply":
            return self.apply()
        return self.definition(kind, scope, depth)

    def top_when(self, scope, depth):
        """A when, the groups of which mostly declare the same."""
        if self.chance(0.3):
            groups = [tuple(row for _ in range(self.random.randint(0, 2)) for row in self.top(scope, depth))
                      for _ in "ab"]
        elif self.sigs and self.modules and self.chance(0.6):
            name = self.fresh(("ma", "mb", "mc", "md"), self.views)
            sig = self.pick(self.sigs)
            groups = [(("module", NUMBER, name, self.body(*self.sigs[sig], scope, depth), sig),) for _ in "ab"]
            self.view(name, *self.sigs[sig][:2], sig)
        else:
            name, wanted = self.fresh(("a", "b", "c", "d", "e"), scope), self.wanted(1)
            groups = [(("def", NUMBER, name, self.expression(wanted, scope, depth)),) for _ in "ab"]
            scope[name] = wanted
        return (("when", NUMBER, self.switch(), *groups),)

    def fresh(self, names, taken):
        free = [name for name in names if name not in taken]
        return self.pick(names if self.chance(self.wild) or not free else free)

    def definition(self, kind, scope, depth):
        name = self.fresh(("a", "b", "c", "d", "e", "f", "g", "x"), scope)
        if kind == "free":
            row = ("def", NUMBER, name, self.free({n: t for n, t in scope.items()}, 2))
            scope[name] = None
        elif kind == "defrec":
            arrow = ("arrow", self.wanted(1), self.wanted(1))
            row = ("defrec", NUMBER, ((name, self.function(arrow, {**scope, name: arrow}, depth)),))
            scope[name] = arrow
        else:
            wanted = self.wanted(1)
            row = ("def", NUMBER, name, self.expression(wanted, scope, depth))
            scope[name] = wanted
        return (row,)

    def data(self):
        name = self.fresh(("da", "db", "dc"), self.datas)
        letters = self.pick([(), ("p",), ("p",), ("p", "q"), *[("p", "p")] * self.chance(self.wild)])
        makers, rows = [], []
        for at in range(self.random.randint(1, 3)):
            content = self.pick([INT, BOOL, self.wanted(1), ("tuple", (BOOL, INT))])
            if letters and self.chance(0.5):
                content = ("named", self.pick(letters))
            if at and self.chance(0.4):
                content = ("tuple", (content, ("of", name, tuple(("named", p) for p in letters))))
            maker = f"{name}{at}"
            makers.append((maker, content))
            rows.append(("maker", NUMBER, maker, self.written(content)))
            if self.chance(self.choices):
                rows[-1] = ("when", NUMBER, self.switch(), (rows[-1],), ())
        self.datas[name] = (letters, makers)
        return (("data", NUMBER, name, letters, tuple(rows)),)

    def signature(self, param=None):
        """The items of a signature, what they show, and what a struct needs for it."""
        hides, values, items, inside = [], [], [], {}
        if self.chance(0.7):
            hides.append("t")
            inside["t"] = self.wanted(0)
            items.append(("hide", NUMBER, "t"))
        for name in self.random.sample(("x", "y", "f"), self.random.randint(1, 3)):
            wanted = self.wanted(1)
            letters = ()
            if hides and self.chance(0.6):
                wanted = self.pick([("named", "t"), ("arrow", ("named", "t"), INT), ("arrow", INT, ("named", "t"))])
            elif self.chance(0.3):
                letters = ("a",)
                wanted = self.pick([("arrow", ("named", "a"), ("named", "a")), ("arrow", ("named", "a"), INT)])
            if param and self.chance(0.3):
                wanted = self.pick([("from", param, "t"), ("arrow", ("from", param, "t"), wanted)])
            values.append((name, wanted, letters))
            row = ("val", NUMBER, name, letters, self.written(wanted))
            items.append(("when", NUMBER, self.switch(), (row,), ()) if self.chance(self.choices / 2) else row)
        return tuple(items), hides, values, inside

    def items(self, hides, values):
        """The items that tell this."""
        vals = [("val", NUMBER, name, letters, self.written(wanted)) for name, wanted, letters in values]
        return (*[("hide", NUMBER, t) for t in hides], *vals)

    def struct_rows(self, hides, values, inside, scope, depth):
        rows = [("alias", NUMBER, t, self.written(inside[t])) for t in hides]
        own = {}
        for name, wanted, letters in values:
            if self.chance(self.wild * 2):
                continue
            if letters:
                x = self.name()
                body = ("name", NUMBER, x) if wanted[2] == ("named", "a") else ("number", NUMBER, 1)
                rows.append(("def", NUMBER, name, ("fn", NUMBER, x, body)))
            else:
                plain = put_in(wanted, inside)
                rows.append(("def", NUMBER, name, self.expression(plain, {**scope, **own}, min(depth, 2))))
                own[name] = plain
        if self.chance(0.3):
            rows += self.definition("free", {**scope, **own}, depth)
        rows = tuple(rows)
        if rows and self.chance(self.choices):
            rows = (*rows[:-1], ("when", NUMBER, self.switch(), rows[-1:], rows[-1:] * self.chance(0.5)))
        return rows

    def view(self, module, hides, values, sig=None):
        of = lambda wanted: put_in(wanted, {t: ("from", module, t) for t in hides})
        self.views[module] = {
            "types": hides, "sig": sig, "values": [(name, None if letters else of(wanted)) for name, wanted, letters in values]}

    def module(self, scope, depth):
        module = self.fresh(("ma", "mb", "mc", "md"), self.views)
        sig, found = None, []
        if self.sigs and self.chance(0.5):
            sig = self.pick(self.sigs)
            hides, values, inside = self.sigs[sig]
        else:
            items, hides, values, inside = self.signature()
            if self.chance(0.6):
                sig = self.fresh(("sa", "sb"), self.sigs)
                self.sigs[sig] = (hides, values, inside)
                found.append(("sig", NUMBER, sig, items))
        body = self.body(hides, values, inside, scope, depth)
        if self.chance(self.choices):
            body = ("choose", NUMBER, self.switch(), body, self.body(hides, values, inside, scope, depth))
        if sig or not hides:
            self.view(module, hides, values, sig)
        else:
            self.view(module, hides, [(x, t if letters else put_in(t, inside), letters) for x, t, letters in values])
        return (*found, ("module", NUMBER, module, body, sig if not self.chance(self.wild) else None))

    def body(self, hides, values, inside, scope, depth):
        return ("struct", NUMBER, self.struct_rows(hides, values, inside, scope, depth))

    def functor(self, scope, depth):
        if not self.sigs:
            return self.module(scope, depth)
        sig = self.pick(self.sigs)
        name = self.fresh(("fa", "fb"), self.functors)
        param = self.fresh(("pa", "pb", "pc"), [row[0] for row in self.functors.values()])
        hides, values, _ = self.sigs[sig]
        items, told_hides, told_values, inside = self.signature(param if hides else None)
        if self.chance(0.4):
            # Its modules can be sealed and passed on.
            told_hides, told_values, inside = self.sigs[sig]
            items = self.items(told_hides, told_values)
        before = dict(self.views)
        self.view(param, hides, values)
        rows = self.struct_rows(told_hides, told_values, inside, scope, depth)
        self.views = before
        self.functors[name] = (param, sig, told_hides, told_values)
        return (("functor", NUMBER, name, param, sig, rows, items),)

    def apply(self):
        if not self.functors or not self.views:
            return ()
        functor = self.pick(self.functors)
        argument = self.argument(functor)
        module = self.fresh(("ma", "mb", "mc", "md", "me", "mf"), self.views)
        param, _, hides, values = self.functors[functor]
        sealed = self.functors[functor][2:] == self.sigs[self.functors[functor][1]][:2]
        seal = self.functors[functor][1] if sealed and self.chance(0.5) else None
        rename = lambda wanted: renamed(wanted, param, argument)
        self.view(module, hides, [(x, rename(t), letters) for x, t, letters in values], seal)
        body = ("apply", NUMBER, functor, argument)
        if self.chance(self.choices):
            body = ("choose", NUMBER, self.switch(), body, ("apply", NUMBER, functor, self.argument(functor)))
        seal = self.pick(self.sigs) if self.chance(self.wild) else seal
        return (("module", NUMBER, module, body, seal),)


    def argument(self, functor):
        """A module that mostly meets what the functor asks for."""
        good = [m for m in self.views if self.views[m]["sig"] == self.functors[functor][1]]
        return self.pick(good if good and not self.chance(self.wild) else self.views)


class Number:
    """Stands for a number that is not yet given."""

    def __repr__(self):
        return "0"


NUMBER = Number()


def put_in(wanted, terms):
    """The type with others in the place of named ones."""
    word = wanted[0]
    if word == "named":
        return terms.get(wanted[1], wanted)
    if word == "tuple":
        return (word, tuple(put_in(part, terms) for part in wanted[1]))
    if word in ("record", "variant"):
        return (word, tuple((label, put_in(part, terms)) for label, part in wanted[1]))
    if word == "of":
        return (word, wanted[1], tuple(put_in(part, terms) for part in wanted[2]))
    if word in ("arrow", "cell"):
        return (word, *[put_in(part, terms) for part in wanted[1:]])
    return wanted


def renamed(wanted, param, argument):
    """The type with `from` another module."""
    if wanted[0] == "from":
        return ("from", argument if wanted[1] == param else wanted[1], wanted[2])
    if wanted[0] in ("arrow", "cell"):
        return (wanted[0], *[renamed(part, param, argument) for part in wanted[1:]])
    return wanted
