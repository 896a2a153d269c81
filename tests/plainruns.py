"""Part 13 for programs without choices, written plainly with Python's own recursion."""

from settings import deep_recursion


class Ended(Exception):
    """The run has ended before main had a value."""


def plain_run(program, fuel=400):
    runner = PlainRun(fuel)
    with deep_recursion():
        try:
            return runner.whole(program)
        except Ended as end:
            return end.args[0]


class Cell:
    def __init__(self, content):
        self.content = content


class PlainRun:
    """Worths are Python's numbers, truths and lists, dicts for records, tuples for the rest."""

    def __init__(self, fuel):
        self.fuel = fuel
        self.calls = 0

    def whole(self, program):
        env = {"values": {}, "modules": {}, "functors": {}}
        self.rows(program[2], env)
        worth = self.expression(program[3], env)
        return ("value", told(worth), self.calls)

    def end(self, word, detail):
        raise Ended((word, detail, self.calls))

    def stuck(self, node):
        self.end("stuck", node[1])

    def check(self, good, node):
        if not good:
            self.stuck(node)

    def rows(self, rows, env):
        """Binds in the env what the rows declare; gives the values among them."""
        own = {}
        for node in rows:
            word = node[0]
            if word == "def":
                own[node[2]] = self.expression(node[3], env)
            elif word == "defrec":
                own.update(self.group(node, env))
            elif word == "functor":
                env["functors"][node[2]] = (node, copied(env))
            elif word == "module":
                env["modules"][node[2]] = self.body(node[3], env)
            env["values"].update(own)
        return own

    def body(self, body, env):
        if body[0] == "struct":
            return self.rows(body[2], copied(env))
        self.check(body[2] in env["functors"] and body[3] in env["modules"], body)
        functor, around = env["functors"][body[2]]
        inner = copied(around)
        inner["modules"][functor[3]] = env["modules"][body[3]]
        return self.rows(functor[5], inner)

    def group(self, node, env):
        inner = copied(env)
        for name, side in node[2]:
            while side[0] == "mark":
                side = side[3]
            if side[0] == "hole":
                self.end("hole", side[1])
            self.check(side[0] == "fn", node)
            inner["values"][name] = ("fn", side, inner)
        return {name: inner["values"][name] for name, _ in node[2]}

    def expression(self, node, env):
        return getattr(self, "x_" + node[0])(node, env)

    def with_values(self, env, pairs):
        inner = copied(env)
        inner["values"].update(pairs)
        return inner

    def x_name(self, node, env):
        self.check(node[2] in env["values"], node)
        return env["values"][node[2]]

    def x_member(self, node, env):
        self.check(node[3] in env["modules"].get(node[2], {}), node)
        return env["modules"][node[2]][node[3]]

    def x_number(self, node, env):
        return node[2]

    x_truth = x_number

    def x_hole(self, node, env):
        self.end("hole", node[1])

    def x_fn(self, node, env):
        return ("fn", node, env)

    def x_app(self, node, env):
        function, argument = [self.expression(part, env) for part in node[2:]]
        self.check(is_of(function, "fn"), node)
        if self.calls == self.fuel:
            self.end("fuel", None)
        self.calls += 1
        _, fn, around = function
        return self.expression(fn[3], self.with_values(around, {fn[2]: argument}))

    def x_let(self, node, env):
        return self.expression(node[4], self.with_values(env, {node[2]: self.expression(node[3], env)}))

    def x_rec(self, node, env):
        return self.expression(node[3], self.with_values(env, self.group(node, env)))

    def x_if(self, node, env):
        test = self.expression(node[2], env)
        self.check(isinstance(test, bool), node)
        return self.expression(node[3] if test else node[4], env)

    def x_op(self, node, env):
        left, right = [self.expression(part, env) for part in node[3:]]
        self.check(is_number(left) and is_number(right), node)
        return {"+": left + right, "-": left - right, "<": left < right, "=": left == right}[node[2]]

    def x_tuple(self, node, env):
        return [self.expression(part, env) for part in node[2]]

    def x_record(self, node, env):
        pairs = [(label, self.expression(part, env)) for label, part in node[2]]
        self.check(len(dict(pairs)) == len(pairs), node)
        return dict(pairs)

    def field(self, node, record):
        self.check(isinstance(record, dict) and node[2] in record, node)
        return record[node[2]]

    def x_get(self, node, env):
        return self.field(node, self.expression(node[3], env))

    def x_extend(self, node, env):
        field, record = [self.expression(part, env) for part in node[3:]]
        self.check(isinstance(record, dict) and node[2] not in record, node)
        return {**record, node[2]: field}

    def x_update(self, node, env):
        field, record = [self.expression(part, env) for part in node[3:]]
        self.field(node, record)
        return {**record, node[2]: field}

    def x_without(self, node, env):
        record = self.expression(node[3], env)
        self.field(node, record)
        return {label: record[label] for label in record if label != node[2]}

    def x_tag(self, node, env):
        return (node[0], node[2], self.expression(node[3], env))

    x_make = x_tag

    def x_case(self, node, env):
        asked = self.expression(node[2], env)
        self.check(is_of(asked, "tag"), node)
        for label, name, side in node[3]:
            if label == asked[1]:
                return self.expression(side, self.with_values(env, {name: asked[2]}))
        self.check(node[4] is not None, node)
        return self.expression(node[4][1], self.with_values(env, {node[4][0]: asked}))

    def x_match(self, node, env):
        asked = self.expression(node[2], env)
        for _, _, pattern, side in node[3]:
            bound = []
            if matched(pattern, asked, bound):
                return self.expression(side, self.with_values(env, bound))
        self.stuck(node)

    def x_cell(self, node, env):
        return Cell(self.expression(node[3], env))

    def x_read(self, node, env):
        cell = self.expression(node[2], env)
        self.check(isinstance(cell, Cell), node)
        return cell.content

    def x_write(self, node, env):
        cell, content = [self.expression(part, env) for part in node[2:]]
        self.check(isinstance(cell, Cell), node)
        cell.content = content
        return {}

    def x_is(self, node, env):
        return self.expression(node[2], env)

    def x_mark(self, node, env):
        return self.expression(node[3], env)


def copied(env):
    return {space: dict(env[space]) for space in env}


def is_number(worth):
    return isinstance(worth, int) and not isinstance(worth, bool)


def is_of(worth, word):
    return isinstance(worth, tuple) and worth[0] == word


def matched(pattern, worth, bound):
    word = pattern[0]
    if word == "name":
        bound.append((pattern[2], worth))
    if word in ("any", "name"):
        return True
    if word in ("number", "truth"):
        return type(worth) is type(pattern[2]) and worth == pattern[2]
    if word == "tuple":
        if not isinstance(worth, list) or len(worth) != len(pattern[2]):
            return False
        return all([matched(p, w, bound) for p, w in zip(pattern[2], worth)])
    if word == "record":
        if not isinstance(worth, dict) or any(label not in worth for label, _ in pattern[2]):
            return False
        return all([matched(p, worth[label], bound) for label, p in pattern[2]])
    return is_of(worth, "make") and worth[1] == pattern[2] and matched(pattern[3], worth[2], bound)


def told(worth, steps=0):
    """13.3."""
    if steps > 6:
        return ("deep",)
    inside = lambda part: told(part, steps + 1)
    if isinstance(worth, bool):
        return ("truth", worth)
    if isinstance(worth, int):
        return ("number", worth)
    if isinstance(worth, list):
        return ("tuple", tuple(map(inside, worth)))
    if isinstance(worth, dict):
        return ("record", tuple((label, inside(worth[label])) for label in sorted(worth)))
    if isinstance(worth, Cell):
        return ("cell", inside(worth.content))
    if worth[0] == "fn":
        return ("fn",)
    return (worth[0], worth[1], inside(worth[2]))
