"""Judges papers by 12.5 to 12.8 alone, for programs without choices and marks.

The names of the program must be in order. Nothing of the package is used.
"""

from settings import deep_recursion

SPACES = ("values", "makers", "types", "sigs", "modules", "functors")
ROWED = ("record", "variant")
FALSE = ("false",)


class Definition:
    """The right sides of a definition; `group` tells whether they see one another."""

    def __init__(self, rows, env, group):
        self.rows = rows
        self.env = env
        self.group = group


class Module:
    """`values` has ("own", definition, name) or ("val", item, read) for each value."""

    def __init__(self, values, types):
        self.values = values
        self.types = types


def letter(chain, number, role=""):
    return ("letter", (chain, number, role))


def root(chain, definition, name):
    return letter(chain, dict(definition.rows)[name][1])


def fields_of(pairs):
    return tuple(sorted(dict(pairs).items()))


def copy_of(env):
    return {space: dict(env[space]) for space in env}


class Unfolded:
    """`claims` has the given claims of each place, `places` those of expressions and patterns."""

    def __init__(self, tree):
        self.claims = {}
        self.places = []
        env = {space: {} for space in SPACES}
        with deep_recursion():
            self.struct(tree[2], env)
            self.expression(tree[3], (), env)

    def give(self, number, chain, *claims):
        self.claims.setdefault((number, chain), []).extend(claims)

    def expression(self, node, chain, env):
        self.places.append((node[1], chain))
        getattr(self, "x_" + node[0])(node, chain, env)

    def same(self, node, chain, part, term):
        """Gives the claim that a part has a term; another node stands for its letter."""
        if len(term) > 1 and isinstance(term[1], int):
            term = letter(chain, term[1])
        self.give(node[1], chain, ("same", letter(chain, part[1]), term))

    def lacks(self, node, chain, *labels):
        self.give(node[1], chain, *[("lacks", (chain, node[1], "row"), l) for l in labels])

    def define(self, rows, chain, env, group):
        """Goes through the right sides in the definition's own chain."""
        definition = Definition(rows, env, group)
        self.sides(definition, chain)
        return definition

    def sides(self, definition, chain):
        env = definition.env
        if definition.group:
            env = copy_of(env)
            for name, _ in definition.rows:
                env["values"][name] = ("held", root(chain, definition, name))
        for _, side in definition.rows:
            self.expression(side, chain, env)

    def known(self, definition, env):
        inner = copy_of(env)
        for name, _ in definition.rows:
            inner["values"][name] = ("own", definition, name)
        return inner

    def use(self, node, chain, meaning):
        if meaning[0] == "held":
            return self.same(node, chain, node, meaning[1])
        if meaning[0] == "val":
            _, item, read = meaning
            return self.same(node, chain, node, read({a: letter(chain, node[1], f"of {a}") for a in item[3]}))
        _, definition, name = meaning
        copied = (*chain, node[1])
        self.sides(definition, copied)
        self.same(node, chain, node, root(copied, definition, name))

    def x_name(self, node, chain, env):
        self.use(node, chain, env["values"][node[2]])

    def x_member(self, node, chain, env):
        self.use(node, chain, env["modules"][node[2]].values[node[3]])

    def x_number(self, node, chain, env):
        self.same(node, chain, node, ("int",))

    def x_truth(self, node, chain, env):
        self.same(node, chain, node, ("bool",))

    def x_hole(self, node, chain, env):
        pass

    def held(self, node, chain, env, pairs):
        inner = copy_of(env)
        for name, term in pairs:
            inner["values"][name] = ("held", term)
        self.expression(node, chain, inner)

    def x_fn(self, node, chain, env):
        parameter = letter(chain, node[1], "in")
        self.same(node, chain, node, ("arrow", parameter, letter(chain, node[3][1])))
        self.held(node[3], chain, env, [(node[2], parameter)])

    def parts(self, nodes, chain, env):
        for node in nodes:
            self.expression(node, chain, env)

    def x_app(self, node, chain, env):
        _, n, f, a = node
        self.same(node, chain, f, ("arrow", letter(chain, a[1]), letter(chain, n)))
        self.parts((f, a), chain, env)

    def x_let(self, node, chain, env):
        _, n, x, a, b = node
        self.same(node, chain, node, b)
        definition = self.define(((x, a),), chain, env, False)
        self.expression(b, chain, self.known(definition, env))

    def x_rec(self, node, chain, env):
        self.same(node, chain, node, node[3])
        definition = self.define(node[2], chain, env, True)
        self.expression(node[3], chain, self.known(definition, env))

    def x_if(self, node, chain, env):
        self.same(node, chain, node[2], ("bool",))
        self.same(node, chain, node[3], node)
        self.same(node, chain, node[4], node)
        self.parts(node[2:], chain, env)

    def x_op(self, node, chain, env):
        for part in node[3:]:
            self.same(node, chain, part, ("int",))
        self.same(node, chain, node, ("int",) if node[2] in "+-" else ("bool",))
        self.parts(node[3:], chain, env)

    def x_tuple(self, node, chain, env):
        self.same(node, chain, node, ("tuple", tuple(letter(chain, e[1]) for e in node[2])))
        self.parts(node[2], chain, env)

    def x_record(self, node, chain, env):
        record = ("record", fields_of((l, letter(chain, e[1])) for l, e in node[2]), None)
        self.same(node, chain, node, record)
        self.parts([e for _, e in node[2]], chain, env)

    def with_field(self, node, chain, term, word="record"):
        return (word, ((node[2], term),), (chain, node[1], "row"))

    def x_get(self, node, chain, env):
        self.same(node, chain, node[3], self.with_field(node, chain, letter(chain, node[1])))
        self.lacks(node, chain, node[2])
        self.expression(node[3], chain, env)

    def x_extend(self, node, chain, env):
        _, n, l, e, r = node
        self.same(node, chain, r, ("record", (), (chain, n, "row")))
        self.same(node, chain, node, self.with_field(node, chain, letter(chain, e[1])))
        self.lacks(node, chain, l)
        self.parts((e, r), chain, env)

    def x_update(self, node, chain, env):
        _, n, l, e, r = node
        self.same(node, chain, r, self.with_field(node, chain, letter(chain, n, "old")))
        self.same(node, chain, node, self.with_field(node, chain, letter(chain, e[1])))
        self.lacks(node, chain, l)
        self.parts((e, r), chain, env)

    def x_without(self, node, chain, env):
        _, n, l, r = node
        self.same(node, chain, r, self.with_field(node, chain, letter(chain, n, "old")))
        self.same(node, chain, node, ("record", (), (chain, n, "row")))
        self.lacks(node, chain, l)
        self.expression(r, chain, env)

    def x_tag(self, node, chain, env):
        self.same(node, chain, node, self.with_field(node, chain, letter(chain, node[3][1]), "variant"))
        self.lacks(node, chain, node[2])
        self.expression(node[3], chain, env)

    def x_case(self, node, chain, env):
        _, n, e, rows, rest = node
        terms = {l: letter(chain, n, "arm " + l) for l, _, _ in rows}
        tail = (chain, n, "row") if rest else None
        self.same(node, chain, e, ("variant", fields_of(terms.items()), tail))
        self.expression(e, chain, env)
        for l, x, a in rows:
            self.same(node, chain, a, node)
            self.held(a, chain, env, [(x, terms[l])])
        if rest:
            self.lacks(node, chain, *terms)
            self.same(node, chain, rest[1], node)
            self.held(rest[1], chain, env, [(rest[0], ("variant", (), tail))])

    def made(self, node, chain, env):
        data, maker, around = env["makers"][node[2]]
        letters = {p: letter(chain, node[1], f"of {p}") for p in data[3]}
        self.same(node, chain, node, ("data", data[2], tuple(letters.values())))
        self.same(node, chain, node[3], self.written(maker[3], around, letters))

    def x_make(self, node, chain, env):
        self.made(node, chain, env)
        self.expression(node[3], chain, env)

    def x_match(self, node, chain, env):
        _, n, e, arms = node
        self.expression(e, chain, env)
        for _, _, p, a in arms:
            self.same(node, chain, e, p)
            self.same(node, chain, a, node)
            bound = []
            self.pattern(p, chain, env, bound)
            self.held(a, chain, env, bound)

    def pattern(self, node, chain, env, bound):
        word = node[0]
        self.places.append((node[1], chain))
        if word == "name":
            bound.append((node[2], letter(chain, node[1])))
        elif word in ("number", "truth"):
            self.same(node, chain, node, ("int",) if word == "number" else ("bool",))
        elif word == "tuple":
            self.same(node, chain, node, ("tuple", tuple(letter(chain, p[1]) for p in node[2])))
            for part in node[2]:
                self.pattern(part, chain, env, bound)
        elif word == "record":
            self.same(node, chain, node, ("record", fields_of((l, letter(chain, p[1])) for l, p in node[2]), (chain, node[1], "row")))
            self.lacks(node, chain, *[l for l, _ in node[2]])
            for _, part in node[2]:
                self.pattern(part, chain, env, bound)
        elif word == "make":
            self.made(node, chain, env)
            self.pattern(node[3], chain, env, bound)

    def x_cell(self, node, chain, env):
        content = self.written(node[2], env, {})
        self.same(node, chain, node[3], content)
        self.same(node, chain, node, ("cell", content))
        self.expression(node[3], chain, env)

    def x_read(self, node, chain, env):
        self.same(node, chain, node[2], ("cell", letter(chain, node[1])))
        self.expression(node[2], chain, env)

    def x_write(self, node, chain, env):
        self.same(node, chain, node[2], ("cell", letter(chain, node[3][1])))
        self.same(node, chain, node, ("record", (), None))
        self.parts(node[2:], chain, env)

    def x_is(self, node, chain, env):
        term = self.written(node[3], env, {})
        self.same(node, chain, node[2], term)
        self.same(node, chain, node, term)
        self.expression(node[2], chain, env)

    def written(self, node, env, letters):
        word = node[0]
        read = lambda part: self.written(part, env, letters)
        if word == "named":
            return letters[node[2]] if node[2] in letters else env["types"][node[2]]
        if word == "from":
            return env["modules"][node[2]].types[node[3]]
        if word == "of":
            return ("data", node[2], tuple(map(read, node[3])))
        if word == "tuple":
            return ("tuple", tuple(map(read, node[2])))
        if word in ROWED:
            return (word, fields_of((l, read(part)) for l, part in node[2]), None)
        return (word, *map(read, node[2:]))

    def struct(self, rows, env):
        """Goes through declarations; changes the scope. Returns what they show."""
        shown = Module({}, {})
        for node in rows:
            word = node[0]
            if word in ("def", "defrec"):
                rows_here = ((node[2], node[3]),) if word == "def" else node[2]
                definition = self.define(rows_here, (), copy_of(env), word == "defrec")
                for name, _ in rows_here:
                    shown.values[name] = env["values"][name] = ("own", definition, name)
            elif word == "alias":
                shown.types[node[2]] = env["types"][node[2]] = self.written(node[3], env, {})
            elif word == "data":
                around = copy_of(env)
                env["makers"].update({maker[2]: (node, maker, around) for maker in node[4]})
            elif word == "sig":
                env["sigs"][node[2]] = (node[3], copy_of(env))
            elif word == "functor":
                self.functor(node, env)
            else:
                env["modules"][node[2]] = self.module(node, env)
        return shown

    def shown(self, name, items, env):
        """What a module of the name tells that shows items."""
        env = copy_of(env)
        values, types = {}, {}
        for item in items:
            if item[0] == "hide":
                types[item[2]] = env["types"][item[2]] = ("hidden", name, item[2])
            else:
                values[item[2]] = ("val", item, lambda letters, item=item: self.written(item[4], env, letters))
        return Module(values, types)

    def meet(self, number, module, items, env):
        env = copy_of(env)
        for item in items:
            if item[0] == "hide":
                env["types"][item[2]] = module.types[item[2]]
                continue
            w, chain = item[1], ((number, item[1]),)
            wanted = self.written(item[4], env, {a: ("stone", f"{w}.{a}") for a in item[3]})
            meaning = module.values[item[2]]
            if meaning[0] == "own":
                self.sides(meaning[1], chain)
                told = root(chain, *meaning[1:])
            else:
                told = meaning[2]({a: letter(chain, w, f"of {a}") for a in meaning[1][3]})
            self.give(w, chain, ("same", wanted, told))

    def functor(self, node, env):
        _, n, name, parameter, sig, rows, items = node
        inner = copy_of(env)
        inner["modules"][parameter] = self.shown(parameter, *env["sigs"][sig])
        around = copy_of(inner)
        self.meet(n, self.struct(rows, inner), items, around)
        env["functors"][name] = (parameter, env["sigs"][sig], items, around)

    def module(self, node, env):
        _, n, name, body, seal = node
        if body[0] == "struct":
            shown = self.struct(body[2], copy_of(env))
        else:
            parameter, sig, items, around = env["functors"][body[2]]
            self.meet(body[1], env["modules"][body[3]], *sig)
            around = copy_of(around)
            around["modules"][parameter] = env["modules"][body[3]]
            shown = self.shown(name, items, around)
        if seal is None:
            return shown
        self.meet(n, shown, *env["sigs"][seal])
        return self.shown(name, *env["sigs"][seal])


def parts_of(term):
    """The immediate parts of a term; the fields of a row count."""
    word = term[0]
    if word in ("arrow", "cell"):
        return term[1:]
    if word == "tuple":
        return term[1]
    if word == "data":
        return term[2]
    return tuple(field for _, field in term[1]) if word in ROWED else ()


def inside(term):
    """The term and all its parts."""
    found = [term]
    for part in parts_of(term):
        found += inside(part)
    return found


class Judge:
    """Judges each row of a paper; a row that is not right raises an AssertionError."""

    def __init__(self, tree, paper):
        unfolded = Unfolded(tree)
        self.claims = unfolded.claims
        self.terms = {t for claims in self.claims.values() for c in claims if c[0] == "same"
                      for side in c[1:] for t in inside(side)}
        self.paper = paper
        assert isinstance(paper, tuple) and paper
        for at, row in enumerate(paper):
            self.at = at
            rule, parts, claim = row
            assert isinstance(row, tuple) and isinstance(parts, tuple) and isinstance(claim, tuple), row
            assert (claim == FALSE) == (at == len(paper) - 1), row
            assert getattr(self, "r_" + rule)(parts, claim), row

    def claim(self, index, word):
        """The claim of an earlier row, without its word."""
        assert isinstance(index, int) and 0 <= index < self.at, index
        claim = self.paper[index][2]
        assert claim[0] == word, claim
        return claim[1:]

    def r_given(self, parts, claim):
        return claim in self.claims[parts]

    def r_self(self, parts, claim):
        return parts == () and claim[0] == "same" and claim[1] == claim[2] and claim[1] in self.terms

    def r_turned(self, parts, claim):
        (i,) = parts
        return claim == ("same", *self.claim(i, "same")[::-1])

    def r_chained(self, parts, claim):
        i, j = parts
        (a, b), (c, d) = self.claim(i, "same"), self.claim(j, "same")
        return b == c and claim == ("same", a, d)

    def r_part(self, parts, claim):
        i, k = parts
        a, b = self.claim(i, "same")
        assert a[0] == b[0] and a[0] in ("arrow", "tuple", "data", "cell")
        assert a[0] != "data" or a[1] == b[1]
        assert len(parts_of(a)) == len(parts_of(b)) and 0 <= k < len(parts_of(a))
        return claim == ("same", parts_of(a)[k], parts_of(b)[k])

    def field(self, term, label, ref):
        """The field of a row with the label, by the term itself or by a row of the paper."""
        fields = dict(term[1])
        if ref is None:
            return fields[label]
        assert label not in fields
        tail, other, field = self.claim(ref, "has")
        assert (tail, other) == (term[2], label)
        return field

    def both_rows(self, i):
        a, b = self.claim(i, "same")
        assert a[0] == b[0] and a[0] in ROWED
        return a, b

    def r_field(self, parts, claim):
        i, label, j, k = parts
        a, b = self.both_rows(i)
        return claim == ("same", self.field(a, label, j), self.field(b, label, k))

    def r_moved(self, parts, claim):
        i, label, j = parts
        a, b = self.both_rows(i)
        assert label not in dict(b[1]) and b[2] is not None
        return claim == ("has", b[2], label, self.field(a, label, j))

    def r_heads(self, parts, claim):
        (i,) = parts
        a, b = self.claim(i, "same")
        assert "letter" not in (a[0], b[0]) and claim == FALSE
        if a[0] != b[0]:
            return True
        assert a[0] not in ROWED
        names = lambda t: t[1:3] if t[0] == "hidden" else t[1] if t[0] in ("data", "stone") else None
        return names(a) != names(b) or len(parts_of(a)) != len(parts_of(b))

    def r_missing(self, parts, claim):
        i, label, j = parts
        a, b = self.both_rows(i)
        self.field(a, label, j)
        return label not in dict(b[1]) and b[2] is None and claim == FALSE

    def r_lacked(self, parts, claim):
        j, k = parts
        return self.claim(j, "has")[:2] == self.claim(k, "lacks") and claim == FALSE

    def r_loop(self, parts, claim):
        assert parts and claim == FALSE
        pairs = [(*self.claim(i, "same"), hops) for i, hops in parts]
        for at, (_, b, hops) in enumerate(pairs):
            following = pairs[(at + 1) % len(pairs)][0]
            if hops == ():
                assert following in inside(b)[1:]
                continue
            here = b
            for ref in hops:
                tail, _, field = self.claim(ref, "has")
                assert any(t[0] in ROWED and t[2] == tail for t in inside(here))
                here = field
            assert following in inside(here)
        return True


def unfolded_places(tree):
    """All places of expressions and patterns; none stands twice."""
    places = Unfolded(tree).places
    assert len(set(places)) == len(places)
    return places
