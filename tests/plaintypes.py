"""Parts 8 and 10 for programs without choices and marks, written plainly.

The names of the program must be in order.
"""

from eacharm.terms import letters_in
from plainstore import PlainStore

SPACES = ("values", "makers", "types", "sigs", "modules", "functors")


def main_scheme(program):
    """The most general scheme of main, or None where there is no typing."""
    typer = PlainTypes(program)
    return typer.store.scheme(typer.main) if typer.store.living else None


class Module:
    """`values` has a function for each value that gives the type of a use."""

    def __init__(self, values, types):
        self.values = values
        self.types = types


class PlainTypes:
    def __init__(self, program):
        self.store = PlainStore()
        self.top = {space: {} for space in SPACES}
        self.struct(program[2], self.top)
        self.main = self.expression(program[3], self.top, [])

    def new(self):
        return ("letter", self.store.new_letter())

    def new_record(self, label):
        field, row = self.new(), self.store.new_row((label,))
        return ("record", ((label, field),), row), field, row

    def same(self, left, right):
        self.store.unify(left, right)

    def poly(self, term, held):
        """A function that gives the type of each use of a definition."""
        fixed = set()
        for one in held:
            fixed |= set(letters_in(self.store.resolved(one)))
        general = [k for k in letters_in(self.store.resolved(term)) if k not in fixed]

        def use():
            new = {}
            for k in general:
                if k in self.store.lacked:
                    new[k] = self.store.new_row(self.store.lacked[k])
                else:
                    new[k] = self.store.new_letter()
            return replaced(self.store.resolved(term), new)

        return use

    def expression(self, node, env, held):
        return getattr(self, "x_" + node[0])(node, env, held)

    def x_name(self, node, env, held):
        return env["values"][node[2]]()

    def x_member(self, node, env, held):
        return env["modules"][node[2]].values[node[3]]()

    def x_number(self, node, env, held):
        return ("int",)

    def x_truth(self, node, env, held):
        return ("bool",)

    def x_hole(self, node, env, held):
        return self.new()

    def x_fn(self, node, env, held):
        name = self.new()
        return ("arrow", name, self.binding(node[3], env, held, {node[2]: name}))

    def binding(self, node, env, held, terms):
        """The type of an expression in which names are held."""
        inner = copy_of(env)
        for name, term in terms.items():
            inner["values"][name] = lambda term=term: term
        return self.expression(node, inner, held + list(terms.values()))

    def x_app(self, node, env, held):
        whole = self.new()
        function = self.expression(node[2], env, held)
        self.same(function, ("arrow", self.expression(node[3], env, held), whole))
        return whole

    def x_let(self, node, env, held):
        inner = copy_of(env)
        inner["values"][node[2]] = self.poly(self.expression(node[3], env, held), held)
        return self.expression(node[4], inner, held)

    def x_rec(self, node, env, held):
        inner = copy_of(env)
        inner["values"].update(self.group(node[2], env, held))
        return self.expression(node[3], inner, held)

    def group(self, rows, env, held):
        terms = {name: self.new() for name, _ in rows}
        for name, side in rows:
            self.same(terms[name], self.binding(side, env, held, terms))
        return {name: self.poly(terms[name], held) for name in terms}

    def x_if(self, node, env, held):
        test, first, second = [self.expression(part, env, held) for part in node[2:]]
        self.same(test, ("bool",))
        self.same(first, second)
        return first

    def x_op(self, node, env, held):
        for part in node[3:]:
            self.same(self.expression(part, env, held), ("int",))
        return ("int",) if node[2] in "+-" else ("bool",)

    def x_tuple(self, node, env, held):
        return ("tuple", tuple(self.expression(part, env, held) for part in node[2]))

    def x_record(self, node, env, held):
        return ("record", tuple(sorted((l, self.expression(e, env, held)) for l, e in node[2])), None)

    def x_get(self, node, env, held):
        record, field, _ = self.new_record(node[2])
        self.same(self.expression(node[3], env, held), record)
        return field

    def x_extend(self, node, env, held):
        field, record = [self.expression(part, env, held) for part in node[3:]]
        row = self.store.new_row((node[2],))
        self.same(record, ("record", (), row))
        return ("record", ((node[2], field),), row)

    def x_update(self, node, env, held):
        field, record = [self.expression(part, env, held) for part in node[3:]]
        wanted, _, row = self.new_record(node[2])
        self.same(record, wanted)
        return ("record", ((node[2], field),), row)

    def x_without(self, node, env, held):
        wanted, _, row = self.new_record(node[2])
        self.same(self.expression(node[3], env, held), wanted)
        return ("record", (), row)

    def x_tag(self, node, env, held):
        row = self.store.new_row((node[2],))
        return ("variant", ((node[2], self.expression(node[3], env, held)),), row)

    def x_case(self, node, env, held):
        fields = {row[0]: self.new() for row in node[3]}
        row = self.store.new_row(tuple(fields)) if node[4] else None
        asked = self.expression(node[2], env, held)
        self.same(asked, ("variant", tuple(sorted(fields.items())), row))
        whole = self.new()
        for label, name, side in node[3]:
            self.same(whole, self.binding(side, env, held, {name: fields[label]}))
        if node[4]:
            self.same(whole, self.binding(node[4][1], env, held, {node[4][0]: ("variant", (), row)}))
        return whole

    def made(self, name, env, content):
        data, maker = env["makers"][name]
        letters = {letter: self.new() for letter in data[3]}
        self.same(content, self.written(maker[3], env, letters))
        return ("data", data[2], tuple(letters[letter] for letter in data[3]))

    def x_make(self, node, env, held):
        return self.made(node[2], env, self.expression(node[3], env, held))

    def x_match(self, node, env, held):
        asked, whole = self.expression(node[2], env, held), self.new()
        for _, _, pattern, side in node[3]:
            bound = {}
            self.same(asked, self.pattern(pattern, env, bound))
            self.same(whole, self.binding(side, env, held, bound))
        return whole

    def x_cell(self, node, env, held):
        content = self.written(node[2], env, {})
        self.same(self.expression(node[3], env, held), content)
        return ("cell", content)

    def x_read(self, node, env, held):
        content = self.new()
        self.same(self.expression(node[2], env, held), ("cell", content))
        return content

    def x_write(self, node, env, held):
        cell, content = [self.expression(part, env, held) for part in node[2:]]
        self.same(cell, ("cell", content))
        return ("record", (), None)

    def x_is(self, node, env, held):
        term = self.expression(node[2], env, held)
        self.same(term, self.written(node[3], env, {}))
        return term

    def pattern(self, node, env, bound):
        word = node[0]
        if word == "any":
            return self.new()
        if word == "name":
            bound[node[2]] = self.new()
            return bound[node[2]]
        if word in ("number", "truth"):
            return ("int",) if word == "number" else ("bool",)
        if word == "tuple":
            return ("tuple", tuple(self.pattern(part, env, bound) for part in node[2]))
        if word == "make":
            return self.made(node[2], env, self.pattern(node[3], env, bound))
        fields = tuple(sorted((l, self.pattern(part, env, bound)) for l, part in node[2]))
        return ("record", fields, self.store.new_row([label for label, _ in fields]))

    def written(self, node, env, letters):
        word = node[0]
        read = lambda part: self.written(part, env, letters)
        if word in ("int", "bool"):
            return (word,)
        if word == "named":
            return letters[node[2]] if node[2] in letters else env["types"][node[2]]
        if word == "from":
            return env["modules"][node[2]].types[node[3]]
        if word == "of":
            return ("data", node[2], tuple(map(read, node[3])))
        if word == "tuple":
            return ("tuple", tuple(map(read, node[2])))
        if word in ("record", "variant"):
            return (word, tuple(sorted((label, read(part)) for label, part in node[2])), None)
        return (word, *map(read, node[2:]))

    def struct(self, rows, env):
        """Goes through declarations; changes the scope. Returns what they show."""
        shown = Module({}, {})
        for node in rows:
            word = node[0]
            if word == "def":
                term = self.expression(node[3], env, [])
                shown.values[node[2]] = env["values"][node[2]] = self.poly(term, [])
            elif word == "defrec":
                group = self.group(node[2], env, [])
                shown.values.update(group)
                env["values"].update(group)
            elif word == "alias":
                shown.types[node[2]] = env["types"][node[2]] = self.written(node[3], env, {})
            elif word == "data":
                env["makers"].update({maker[2]: (node, maker) for maker in node[4]})
            elif word == "sig":
                env["sigs"][node[2]] = (node[3], copy_of(env))
            elif word == "functor":
                self.functor(node, env)
            else:
                env["modules"][node[2]] = self.module(node, env)
        return shown

    def told(self, name, items, env):
        """What a module of the name tells that shows items."""
        values, types = {}, {}
        env = copy_of(env)
        for item in items:
            if item[0] == "hide":
                types[item[2]] = env["types"][item[2]] = ("hidden", name, item[2])
            else:
                values[item[2]] = self.val_use(item, copy_of(env))
        return Module(values, types)

    def val_use(self, item, env):
        return lambda: self.written(item[4], env, {letter: self.new() for letter in item[3]})

    def meet(self, module, items, env):
        env = copy_of(env)
        for item in items:
            if item[0] == "hide":
                env["types"][item[2]] = module.types[item[2]]
            else:
                stones = {letter: ("stone", f"{item[1]}.{letter}") for letter in item[3]}
                self.same(module.values[item[2]](), self.written(item[4], env, stones))

    def functor(self, node, env):
        _, _, name, parameter, sig, rows, items = node
        inner = copy_of(env)
        inner["modules"][parameter] = self.told(parameter, *env["sigs"][sig])
        outside = copy_of(inner)
        self.meet(self.struct(rows, inner), items, outside)
        env["functors"][name] = (parameter, env["sigs"][sig], items, outside)

    def module(self, node, env):
        _, _, name, body, seal = node
        if body[0] == "struct":
            told = self.struct(body[2], copy_of(env))
        else:
            parameter, sig, items, outside = env["functors"][body[2]]
            self.meet(env["modules"][body[3]], *sig)
            outside = copy_of(outside)
            outside["modules"][parameter] = env["modules"][body[3]]
            told = self.told(name, items, outside)
        if seal is None:
            return told
        self.meet(told, *env["sigs"][seal])
        return self.told(name, *env["sigs"][seal])


def copy_of(env):
    return {space: dict(env[space]) for space in env}


def replaced(term, new):
    """The term with other letters in the place of some."""
    word = term[0]
    if word == "letter":
        return (word, new.get(term[1], term[1]))
    if word in ("record", "variant"):
        fields = tuple((label, replaced(part, new)) for label, part in term[1])
        return (word, fields, new.get(term[2], term[2]))
    if word == "tuple":
        return (word, tuple(replaced(part, new) for part in term[1]))
    if word == "data":
        return (word, term[1], tuple(replaced(part, new) for part in term[2]))
    if word in ("arrow", "cell"):
        return (word, *[replaced(part, new) for part in term[1:]])
    return term
