"""Part 4 for programs without choices, written plainly: faults and binders."""

WORDS = ["unknown", "twice", "count", "shape", "missing", "endless"]
SPACES = ("values", "makers", "data", "types", "sigs", "modules", "functors")
EVERY = None


def names_fault(program):
    """The pair (number, word) of the fault that counts, or None."""
    faults = PlainNames(program).faults
    return min(faults, key=lambda fault: (fault[0], WORDS.index(fault[1])), default=None)


def plain_binders(program):
    return PlainNames(program).bound


class Module:
    """What a module holds; a dict that is EVERY holds every name."""

    def __init__(self, values, types):
        self.values = values
        self.types = types


class PlainNames:
    def __init__(self, program):
        self.faults = []
        self.bound = {}
        top = {space: {} for space in SPACES}
        self.declarations(program[2], top)
        self.expression(program[3], top)

    def fault(self, node, word):
        self.faults.append((node[1], word))

    def use(self, node, space, name, scope):
        if name not in scope[space]:
            self.fault(node, "unknown")
            return None
        self.bound[node[1]] = scope[space][name][0]
        return scope[space][name]

    def use_inside(self, node, space, scope):
        module = scope["modules"].get(node[2])
        if module is None:
            return self.fault(node, "unknown")
        names = module.values if space == "values" else module.types
        if names is EVERY:
            return None
        if node[3] not in names:
            return self.fault(node, "unknown")
        self.bound[node[1]] = names[node[3]]

    def labels(self, node, rows):
        if len({row[0] for row in rows}) < len(rows):
            self.fault(node, "twice")

    def expression(self, node, scope):
        word = node[0]
        if word == "name":
            self.use(node, "values", node[2], scope)
        elif word == "member":
            self.use_inside(node, "values", scope)
        elif word == "fn":
            self.expression(node[3], with_value(scope, node[2], node[1]))
        elif word == "let":
            self.expression(node[3], scope)
            self.expression(node[4], with_value(scope, node[2], node[1]))
        elif word == "rec":
            self.expression(node[3], self.functions(node, scope))
        elif word in ("app", "if", "read", "write"):
            for part in node[2:]:
                self.expression(part, scope)
        elif word in ("op", "get", "extend", "update", "without", "tag", "mark"):
            for part in node[3:]:
                self.expression(part, scope)
        elif word == "tuple":
            for part in node[2]:
                self.expression(part, scope)
        elif word == "record":
            self.labels(node, node[2])
            for _, part in node[2]:
                self.expression(part, scope)
        elif word == "case":
            self.labels(node, node[3])
            self.expression(node[2], scope)
            for name, part in [row[1:] for row in node[3]] + [row for row in [node[4]] if row]:
                self.expression(part, with_value(scope, name, node[1]))
        elif word == "make":
            self.use(node, "makers", node[2], scope)
            self.expression(node[3], scope)
        elif word == "match":
            self.expression(node[2], scope)
            for _, _, pattern, side in node[3]:
                found = {}
                self.pattern(pattern, scope, found)
                inner = scope
                for name in found:
                    inner = with_value(inner, name, found[name])
                self.expression(side, inner)
        elif word == "cell":
            self.written(node[2], scope)
            self.expression(node[3], scope)
        elif word == "is":
            self.expression(node[2], scope)
            self.written(node[3], scope)

    def pattern(self, node, scope, found):
        word = node[0]
        if word == "name":
            if node[2] in found:
                self.fault(node, "twice")
            found[node[2]] = node[1]
        elif word == "tuple":
            for part in node[2]:
                self.pattern(part, scope, found)
        elif word == "record":
            self.labels(node, node[2])
            for _, part in node[2]:
                self.pattern(part, scope, found)
        elif word == "make":
            self.use(node, "makers", node[2], scope)
            self.pattern(node[3], scope, found)

    def written(self, node, scope):
        word = node[0]
        if word == "named":
            self.use(node, "types", node[2], scope)
        elif word == "from":
            self.use_inside(node, "types", scope)
        elif word == "of":
            data = self.use(node, "data", node[2], scope)
            if data is not None and len(data[1][3]) != len(node[3]):
                self.fault(node, "count")
            for part in node[3]:
                self.written(part, scope)
        elif word in ("record", "variant"):
            self.labels(node, node[2])
            for _, part in node[2]:
                self.written(part, scope)
        elif word == "tuple":
            for part in node[2]:
                self.written(part, scope)
        elif word in ("arrow", "cell"):
            for part in node[2:]:
                self.written(part, scope)

    def functions(self, node, scope):
        names = [name for name, _ in node[2]]
        if len(set(names)) < len(names):
            self.fault(node, "twice")
        for name in names:
            scope = with_value(scope, name, node[1])
        for _, side in node[2]:
            bare = side
            while bare[0] == "mark":
                bare = bare[3]
            if bare[0] not in ("fn", "hole"):
                self.fault(bare, "shape")
            self.expression(side, scope)
        return scope

    def declarations(self, rows, scope):
        """Goes through rows; changes the scope. Returns what they declare."""
        declared = {space: {} for space in SPACES}

        def declare(node, space, name, meaning):
            if name in declared[space]:
                self.fault(node, "twice")
            declared[space][name] = meaning
            scope[space][name] = meaning

        for node in rows:
            word = node[0]
            if word == "def":
                self.expression(node[3], scope)
                declare(node, "values", node[2], (node[1],))
            elif word == "defrec":
                self.functions(node, scope)
                for name, _ in node[2]:
                    declare(node, "values", name, (node[1],))
            elif word == "alias":
                self.written(node[3], scope)
                declare(node, "types", node[2], (node[1],))
            elif word == "data":
                self.data(node, scope, declare)
            elif word == "sig":
                declare(node, "sigs", node[2], self.items(node[3], scope))
            elif word == "functor":
                self.functor(node, scope, declare, declared)
            else:
                self.module(node, scope, declare)
        return declared

    def data(self, node, scope, declare):
        if len(set(node[3])) < len(node[3]):
            self.fault(node, "twice")
        # What the written types mean is kept, for going through them again (4.7).
        meanings = dict(scope["data"])
        declare(node, "data", node[2], (node[1], node, meanings))
        meanings[node[2]] = scope["data"][node[2]]
        inner = copy_of(scope)
        for letter in node[3]:
            inner["types"][letter] = (node[1],)
        for maker in node[4]:
            self.written(maker[3], inner)
        for maker in node[4]:
            declare(maker, "makers", maker[2], (maker[1],))
        if not has_value((node[1], node, meanings), set(), set()):
            self.fault(node, "endless")

    def items(self, rows, scope):
        scope = copy_of(scope)
        values, types = {}, {}
        for node in rows:
            if node[0] == "hide":
                if node[2] in types:
                    self.fault(node, "twice")
                types[node[2]] = node[1]
                scope["types"][node[2]] = (node[1],)
            else:
                if node[2] in values or len(set(node[3])) < len(node[3]):
                    self.fault(node, "twice")
                inner = copy_of(scope)
                for letter in node[3]:
                    inner["types"][letter] = (node[1],)
                self.written(node[4], inner)
                values[node[2]] = node[1]
        return Module(values, types)

    def functor(self, node, scope, declare, declared):
        sig = scope["sigs"].get(node[4])
        if sig is None:
            self.fault(node, "unknown")
        inner = copy_of(scope)
        inner["modules"][node[3]] = sig or Module(EVERY, EVERY)
        items_scope = copy_of(inner)
        found = self.declarations(node[5], inner)
        result = self.items(node[6], items_scope)
        self.meet(node, struct_of(found), result)
        declare(node, "functors", node[2], (node, sig, result))
        if node[3] in declared["modules"]:
            self.fault(node, "twice")
        declared["modules"][node[3]] = None

    def module(self, node, scope, declare):
        body = node[3]
        if body[0] == "struct":
            told = struct_of(self.declarations(body[2], copy_of(scope)))
        else:
            functor = scope["functors"].get(body[2])
            argument = scope["modules"].get(body[3])
            if functor is None or argument is None:
                self.fault(body, "unknown")
            told = functor[2] if functor else Module(EVERY, EVERY)
            if functor and functor[1] and argument:
                self.meet(body, argument, functor[1])
        if node[4] is not None:
            sig = scope["sigs"].get(node[4])
            if sig is None:
                self.fault(node, "unknown")
            else:
                self.meet(node, told, sig)
            told = sig or Module(EVERY, EVERY)
        declare(node, "modules", node[2], told)

    def meet(self, node, module, asked):
        for mine, yours in ((module.values, asked.values), (module.types, asked.types)):
            if mine is not EVERY and yours is not EVERY and set(yours) - set(mine):
                self.fault(node, "missing")


def has_value(data, filled, inside):
    """4.7 of one data: `filled` are its letters that count as filled or not at all."""
    number, node, meanings = data

    def fill(written):
        word = written[0]
        if word == "cell":
            return fill(written[2])
        if word == "tuple":
            return all([fill(part) for part in written[2]])
        if word == "record":
            return all([fill(part) for _, part in written[2]])
        if word == "variant":
            return not written[2] or any([fill(part) for _, part in written[2]])
        if word == "named":
            return written[2] not in filled
        if word == "of" and written[2] in meanings:
            other = meanings[written[2]]
            if other[0] in inside | {number}:
                return False
            empty = set()
            for at, letter in enumerate(other[1][3]):
                empty.discard(letter)
                if at < len(written[3]) and not fill(written[3][at]):
                    empty.add(letter)
            return has_value(other, empty, inside | {number})
        return True

    return any([fill(maker[3]) for maker in node[4]])


def struct_of(declared):
    return Module({name: row[0] for name, row in declared["values"].items()},
                  {name: row[0] for name, row in declared["types"].items()})


def copy_of(scope):
    return {space: dict(scope[space]) for space in scope}


def with_value(scope, name, number):
    scope = copy_of(scope)
    scope["values"][name] = (number,)
    return scope
