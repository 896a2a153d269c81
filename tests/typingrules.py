"""Reads a typing by the rules of 8.2 to 8.6 and of part 10 alone (11.3 to 11.7)."""

from eacharm.terms import is_instance, letters_in, row_letters_in, scheme_of

SPACES = ("values", "makers", "types", "sigs", "modules", "functors")
TERMS = {"record", "variant", "row"}


def typing_faults(typing):
    """What of part 11 a typing does not keep; an empty list for a good one."""
    reader = Reader(typing)
    reader.whole()
    return reader.faults


class Module:
    """`values` has for each value a pair: of ("own", key, term) or ("val", item, read)."""

    def __init__(self, values, types):
        self.values = values
        self.types = types


class Reader:
    def __init__(self, typing):
        self.typing = typing
        self.faults = []
        self.numbers = set()
        self.uses = set()
        self.keys = set()
        self.given = set()

    def check(self, good, *what):
        if not good:
            self.faults.append(what)

    def whole(self):
        env = {space: {} for space in SPACES}
        self.struct(self.typing.tree[2], env)
        self.expression(self.typing.tree[3], env, [])
        typing = self.typing
        self.check(set(typing.told) == self.numbers, "told")
        self.check(set(typing.uses) == self.uses, "uses")
        self.check(set(typing.generals) == self.keys, "generals")
        terms = list(typing.told.values()) + [t for pairs in typing.uses.values() for _, t in pairs]
        rows = {tail for term in terms for tail in row_letters_in(term)}
        self.check(set(typing.lacks) == rows, "lacks")
        for term in terms:
            for part in parts_of(term):
                self.check(part[0] != "stone", "stone", term)
                if part[0] in TERMS and part[2] is not None:
                    labels = {label for label, _ in part[1]}
                    self.check(labels <= set(typing.lacks[part[2]]), "lacks beside", part)
                    self.check(("letter", part[2]) not in parts_of(term), "row letter as letter", part)
        for labels in typing.lacks.values():
            self.check(labels == tuple(sorted(set(labels))), "order of lacks", labels)

    def same(self, node, left, right):
        self.check(left == right, node, left, right)

    def told(self, node):
        return self.typing.told[node[1]]

    def expression(self, node, env, held):
        """Reads an expression; gives its type. `held` are the types of held names."""
        self.numbers.add(node[1])
        rule = getattr(self, "x_" + node[0])
        rule(node, env, held, self.told(node))
        return self.told(node)

    def binding(self, node, env, held, terms):
        inner = copy_of(env)
        inner["values"].update({name: ("held", terms[name]) for name in terms})
        return self.expression(node, inner, held + list(terms.values()))

    def x_name(self, node, env, held, whole):
        self.uses.add(node[1])
        self.use(node, env["values"][node[2]], whole)

    def x_member(self, node, env, held, whole):
        self.uses.add(node[1])
        self.use(node, env["modules"][node[2]].values[node[3]], whole)

    def use(self, node, meaning, whole):
        pairs = self.typing.uses[node[1]]
        if meaning[0] == "held":
            self.same(node, pairs, ())
            return self.same(node, whole, meaning[1])
        if meaning[0] == "val":
            _, item, read = meaning
            self.same(node, [k for k, _ in pairs], list(range(len(item[3]))))
            letters = {name: pairs[at][1] for at, name in enumerate(item[3])}
            return self.same(node, whole, read(letters))
        _, key, term = meaning
        self.same(node, tuple(k for k, _ in pairs), self.typing.generals[key])
        rows = row_letters_in(term)
        for k, t in pairs:
            self.check((t[0] == "row") == (k in rows), node, "kind of", k)
            if t[0] == "row":
                lacked = set(self.typing.lacks[k])
                self.check(not lacked & {label for label, _ in t[1]}, node, "lacked", k)
                self.check(t[2] is None or lacked <= set(self.typing.lacks[t[2]]), node, "tail", k)
        self.same(node, whole, put_in(term, dict(pairs)))

    def x_number(self, node, env, held, whole):
        self.same(node, whole, ("int",))

    def x_truth(self, node, env, held, whole):
        self.same(node, whole, ("bool",))

    def x_hole(self, node, env, held, whole):
        pass

    def x_fn(self, node, env, held, whole):
        self.same(node, whole[0], "arrow")
        self.same(node, self.binding(node[3], env, held, {node[2]: whole[1]}), whole[2])

    def x_app(self, node, env, held, whole):
        function, argument = [self.expression(part, env, held) for part in node[2:]]
        self.same(node, function, ("arrow", argument, whole))

    def define(self, number, name, term, held):
        self.keys.add((number, name))
        fixed = {k for one in held for k in letters_in(one)}
        general = tuple(sorted(k for k in letters_in(term) if k not in fixed))
        self.same((number, name), self.typing.generals[(number, name)], general)
        return ("own", (number, name), term)

    def x_let(self, node, env, held, whole):
        term = self.expression(node[3], env, held)
        inner = copy_of(env)
        inner["values"][node[2]] = self.define(node[1], node[2], term, held)
        self.same(node, whole, self.expression(node[4], inner, held))

    def group(self, node, env, held):
        terms = {name: self.told(side) for name, side in node[2]}
        for name, side in node[2]:
            self.binding(side, env, held, terms)
        return {name: self.define(node[1], name, terms[name], held) for name in terms}

    def x_rec(self, node, env, held, whole):
        inner = copy_of(env)
        inner["values"].update(self.group(node, env, held))
        self.same(node, whole, self.expression(node[3], inner, held))

    def x_if(self, node, env, held, whole):
        types = [self.expression(part, env, held) for part in node[2:]]
        self.same(node, types, [("bool",), whole, whole])

    def x_op(self, node, env, held, whole):
        types = [self.expression(part, env, held) for part in node[3:]]
        self.same(node, types, [("int",)] * 2)
        self.same(node, whole, ("int",) if node[2] in "+-" else ("bool",))

    def x_tuple(self, node, env, held, whole):
        self.same(node, whole, ("tuple", tuple(self.expression(part, env, held) for part in node[2])))

    def x_record(self, node, env, held, whole):
        fields = {label: self.expression(part, env, held) for label, part in node[2]}
        self.same(node, whole, ("record", tuple(sorted(fields.items())), None))

    def x_get(self, node, env, held, whole):
        record = self.expression(node[3], env, held)
        self.same(node, record[0], "record")
        self.same(node, dict(record[1]).get(node[2]), whole)

    def record_parts(self, node, record, label, there):
        """The other fields and the tail of a record that has or does not have the label."""
        self.same(node, record[0], "record")
        fields = dict(record[1])
        self.same(node, label in fields, there)
        fields.pop(label, None)
        if record[2] is not None:
            self.check(label in self.typing.lacks[record[2]], node, "tail lacks", label)
        return fields, record[2]

    def x_extend(self, node, env, held, whole):
        field, record = [self.expression(part, env, held) for part in node[3:]]
        fields, tail = self.record_parts(node, record, node[2], False)
        self.same(node, whole, ("record", tuple(sorted({**fields, node[2]: field}.items())), tail))

    def x_update(self, node, env, held, whole):
        field, record = [self.expression(part, env, held) for part in node[3:]]
        fields, tail = self.record_parts(node, record, node[2], True)
        self.same(node, whole, ("record", tuple(sorted({**fields, node[2]: field}.items())), tail))

    def x_without(self, node, env, held, whole):
        record = self.expression(node[3], env, held)
        fields, tail = self.record_parts(node, record, node[2], True)
        self.same(node, whole, ("record", tuple(sorted(fields.items())), tail))

    def x_tag(self, node, env, held, whole):
        self.same(node, whole[0], "variant")
        self.same(node, dict(whole[1]).get(node[2]), self.expression(node[3], env, held))

    def x_case(self, node, env, held, whole):
        asked = self.expression(node[2], env, held)
        self.same(node, asked[0], "variant")
        fields = dict(asked[1])
        for label, name, side in node[3]:
            self.check(label in fields, node, "label", label)
            self.same(node, self.binding(side, env, held, {name: fields[label]}), whole)
        rest = {l: fields[l] for l in fields if l not in [row[0] for row in node[3]]}
        if node[4] is None:
            self.same(node, (rest, asked[2]), ({}, None))
        else:
            other = ("variant", tuple(sorted(rest.items())), asked[2])
            self.same(node, self.binding(node[4][1], env, held, {node[4][0]: other}), whole)

    def made(self, node, env, content, whole):
        data, maker = env["makers"][node[2]]
        self.same(node, whole[:2], ("data", data[2]))
        letters = dict(zip(data[3], whole[2], strict=True))
        self.same(node, content, self.written(maker[3], env, letters))

    def x_make(self, node, env, held, whole):
        self.made(node, env, self.expression(node[3], env, held), whole)

    def x_match(self, node, env, held, whole):
        asked = self.expression(node[2], env, held)
        for _, _, pattern, side in node[3]:
            bound = {}
            self.same(node, self.pattern(pattern, env, bound), asked)
            self.same(node, self.binding(side, env, held, bound), whole)

    def x_cell(self, node, env, held, whole):
        content = self.written(node[2], env, {})
        self.same(node, (self.expression(node[3], env, held), whole), (content, ("cell", content)))

    def x_read(self, node, env, held, whole):
        self.same(node, self.expression(node[2], env, held), ("cell", whole))

    def x_write(self, node, env, held, whole):
        cell, content = [self.expression(part, env, held) for part in node[2:]]
        self.same(node, (cell, whole), (("cell", content), ("record", (), None)))

    def x_is(self, node, env, held, whole):
        term = self.expression(node[2], env, held)
        self.same(node, [term, whole], [self.written(node[3], env, {})] * 2)

    def pattern(self, node, env, bound):
        self.numbers.add(node[1])
        word, whole = node[0], self.told(node)
        if word == "name":
            bound[node[2]] = whole
        elif word in ("number", "truth"):
            self.same(node, whole, ("int",) if word == "number" else ("bool",))
        elif word == "tuple":
            self.same(node, whole, ("tuple", tuple(self.pattern(part, env, bound) for part in node[2])))
        elif word == "make":
            self.made(node, env, self.pattern(node[3], env, bound), whole)
        elif word == "record":
            self.same(node, whole[0], "record")
            for label, part in node[2]:
                self.same(node, self.pattern(part, env, bound), dict(whole[1]).get(label))
        return whole

    def written(self, node, env, letters):
        word = node[0]
        read = lambda part: self.written(part, env, letters)
        if word == "named":
            return letters[node[2]] if node[2] in letters else env["types"][node[2]]
        if word == "from":
            return env["modules"][node[2]].types[node[3]]
        if word == "of":
            return ("data", node[2], tuple(map(read, node[3])))
        if word == "tuple":
            return ("tuple", tuple(map(read, node[2])))
        if word in ("record", "variant"):
            return (word, tuple(sorted((label, read(part)) for label, part in node[2])), None)
        return (word, *map(read, node[2:]))

    def struct(self, rows, env):
        shown = Module({}, {})
        for node in rows:
            word = node[0]
            if word == "def":
                meaning = self.define(node[1], node[2], self.expression(node[3], env, []), [])
                shown.values[node[2]] = env["values"][node[2]] = meaning
            elif word == "defrec":
                group = self.group(node, env, [])
                shown.values.update(group)
                env["values"].update(group)
            elif word == "alias":
                shown.types[node[2]] = env["types"][node[2]] = self.written(node[3], env, {})
            elif word == "data":
                env["makers"].update({maker[2]: (node, maker) for maker in node[4]})
            elif word == "sig":
                env["sigs"][node[2]] = (node[3], copy_of(env))
            elif word == "functor":
                self.functor(node, env)
            else:
                env["modules"][node[2]] = self.module(node, env)
        return shown

    def shown(self, name, items, env):
        env = copy_of(env)
        values, types = {}, {}
        for item in items:
            if item[0] == "hide":
                types[item[2]] = env["types"][item[2]] = ("hidden", name, item[2])
            else:
                read = lambda letters, item=item: self.written(item[4], env, letters)
                values[item[2]] = ("val", item, read)
        return Module(values, types)

    def meet(self, module, items, env):
        env = copy_of(env)
        for item in items:
            if item[0] == "hide":
                env["types"][item[2]] = module.types[item[2]]
                continue
            stones = {letter: ("stone", f"{item[1]}.{letter}") for letter in item[3]}
            wanted = self.written(item[4], env, stones)
            meaning = module.values[item[2]]
            if meaning[0] == "own":
                term = meaning[2]
            else:
                term = meaning[2]({name: ("letter", at) for at, name in enumerate(meaning[1][3])})
            self.check(is_instance(wanted, scheme_of(term, self.typing.lacks)), "meet", item)

    def functor(self, node, env):
        _, _, name, parameter, sig, rows, items = node
        inner = copy_of(env)
        inner["modules"][parameter] = self.shown(parameter, *env["sigs"][sig])
        around = copy_of(inner)
        self.meet(self.struct(rows, inner), items, around)
        env["functors"][name] = (parameter, env["sigs"][sig], items, around)

    def module(self, node, env):
        _, _, name, body, seal = node
        if body[0] == "struct":
            shown = self.struct(body[2], copy_of(env))
        else:
            parameter, sig, items, around = env["functors"][body[2]]
            self.meet(env["modules"][body[3]], *sig)
            around = copy_of(around)
            around["modules"][parameter] = env["modules"][body[3]]
            shown = self.shown(name, items, around)
        if seal is None:
            return shown
        self.meet(shown, *env["sigs"][seal])
        return self.shown(name, *env["sigs"][seal])


def parts_of(term):
    """A term or row and all terms inside it."""
    found = [term]
    for part in term[1:] if term[0] in ("arrow", "cell") else ():
        found += parts_of(part)
    if term[0] in ("tuple", "data"):
        for part in term[-1]:
            found += parts_of(part)
    if term[0] in TERMS:
        for _, part in term[1]:
            found += parts_of(part)
    return found


def put_in(term, pairs):
    """The term with what stands for its letters and row letters put in at once."""
    word = term[0]
    if word == "letter":
        return pairs.get(term[1], term)
    if word in ("arrow", "cell"):
        return (word, *[put_in(part, pairs) for part in term[1:]])
    if word == "tuple":
        return (word, tuple(put_in(part, pairs) for part in term[1]))
    if word == "data":
        return (word, term[1], tuple(put_in(part, pairs) for part in term[2]))
    if word in TERMS:
        row = pairs.get(term[2], ("row", (), term[2]))
        fields = [(label, put_in(part, pairs)) for label, part in term[1]]
        return (word, tuple(sorted([*fields, *row[1]])), row[2])
    return term


def copy_of(env):
    return {space: dict(env[space]) for space in env}
