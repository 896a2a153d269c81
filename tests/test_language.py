"""The files of the package keep the rules of LANGUAGE.md that a test can see.

Only what the package uses so far is looked at; a new construct wants a look
into LANGUAGE.md and a line here.
"""

import ast
import builtins
import re
import unittest
import warnings
from pathlib import Path

from loops import changed_while_walked

PACKAGE = Path(__file__).resolve().parent.parent / "eacharm"
BUILTINS = set("""len range enumerate zip min max sum abs sorted reversed int str bool bytes list
tuple dict set frozenset isinstance ord repr any all divmod Exception ValueError TypeError KeyError
IndexError LookupError ZeroDivisionError ArithmeticError OverflowError RuntimeError
NotImplementedError""".split())
METHODS = set("""append clear copy count endswith extend find get index insert isalnum isalpha
isdigit islower isspace isupper items join keys ljust lower lstrip partition pop remove replace
reverse rfind rjust rpartition rsplit rstrip setdefault split splitlines startswith strip update
upper values zfill bit_length add discard""".split())
BUILTIN_METHODS = {name for kind in (str, int, list, dict, set, bytes) for name in dir(kind)}
NEVER = {"register", "mro", "elements", "open", "input", "law", "version_info", "with_traceback",
         "add_note", "format", "format_map"}
NOT_NAMES = set("""attrgetter breakpoint builtins compile copyright credits delattr dir eval exec
exit gc getattr globals hasattr help id importlib license locals methodcaller os quit setattr super
type vars sys _cold _tuplegetter _outside _record _written_out _member_names""".split())
NOT_WORDS = set("""type typing typing_extensions enum Enum IntEnum StrEnum Flag IntFlag Generic
Protocol ABC ABCMeta namedtuple NamedTuple TypedDict TYPE_CHECKING abstractmethod""".split())
STATEMENTS = (ast.Assign, ast.AugAssign, ast.AnnAssign, ast.If, ast.While, ast.For, ast.Return,
              ast.Break, ast.Continue, ast.Pass, ast.Raise, ast.Assert, ast.Delete, ast.Nonlocal,
              ast.Try, ast.Expr, ast.FunctionDef, ast.ClassDef, ast.ImportFrom)
EXPRESSIONS = (ast.BoolOp, ast.BinOp, ast.UnaryOp, ast.Lambda, ast.IfExp, ast.Dict, ast.Set,
               ast.ListComp, ast.SetComp, ast.DictComp, ast.GeneratorExp, ast.Yield, ast.YieldFrom,
               ast.Compare, ast.Call, ast.JoinedStr, ast.FormattedValue, ast.Constant, ast.Attribute,
               ast.Subscript, ast.Starred, ast.Name, ast.List, ast.Tuple, ast.Slice)
AT_ONCE = {"list", "tuple", "dict", "sorted", "sum", "any", "all", "enumerate", "zip"}
VIEWS = {"zip", "enumerate", "reversed", "range"}
FUNCTIONS = (ast.FunctionDef, ast.Lambda)


def files():
    return sorted(PACKAGE.glob("*.py"))


def tree_of(path):
    tree = ast.parse(path.read_text(encoding="utf-8"))
    for node in ast.walk(tree):
        for child in ast.iter_child_nodes(node):
            child.above = node
    return tree


TREES = {path.name: tree_of(path) for path in files()}
DEFINED = {
    name: {n.name for n in tree.body if isinstance(n, (ast.FunctionDef, ast.ClassDef))} | {
        t.id for n in tree.body if isinstance(n, ast.Assign) for t in n.targets}
    for name, tree in TREES.items()}
OWN_METHODS = {
    m.name for tree in TREES.values() for c in tree.body if isinstance(c, ast.ClassDef)
    for m in c.body if isinstance(m, ast.FunctionDef)}


def everywhere(*kinds):
    """All nodes of these kinds, with a text that tells where they stand."""
    for name, tree in TREES.items():
        for node in ast.walk(tree):
            if isinstance(node, kinds):
                yield f"{name}:{getattr(node, 'lineno', 0)}", node


def called_name(node):
    if isinstance(node, ast.Call) and isinstance(node.func, ast.Name):
        return node.func.id
    return None


def bound_names(node):
    """The parameters and local names of a function."""
    for inner in ast.walk(node):
        if isinstance(inner, ast.arg):
            yield inner.arg
        elif isinstance(inner, ast.Name) and not isinstance(inner.ctx, ast.Load):
            yield inner.id
        elif isinstance(inner, FUNCTIONS[:1]) and inner is not node:
            yield inner.name


class Files(unittest.TestCase):
    def test_names(self):
        for path in PACKAGE.iterdir():
            if path.name != "__pycache__":
                self.assertRegex(path.name, r"^(__init__|[a-z][a-z0-9_]*)\.py$")
        self.assertIn("__init__.py", TREES)
        self.assertLessEqual(len(TREES), 100)

    def test_lines(self):
        for path in files():
            text = path.read_text(encoding="utf-8")
            self.assertTrue(set(text) <= {chr(k) for k in range(32, 127)} | {"\n"}, path.name)
            lines = text.split("\n")
            self.assertLessEqual(len(lines), 399, path.name)
            self.assertLessEqual(max(map(len, lines)), 120, path.name)
            self.assertEqual([line for line in lines if line != line.rstrip()], [], path.name)
            self.assertNotRegex(text, r"_wall|_WallAttr|dataclass|overload|contextmanager")

    def test_no_warnings(self):
        with warnings.catch_warnings():
            warnings.simplefilter("error")
            for path in files():
                compile(path.read_text(encoding="utf-8"), path.name, "exec")

    def test_function_sizes(self):
        for where, node in everywhere(ast.FunctionDef):
            self.assertLessEqual(node.end_lineno - node.lineno + 1, 40, where)

    def test_docstrings(self):
        for name, tree in TREES.items():
            for node in [tree, *[n for n in ast.walk(tree) if isinstance(n, ast.ClassDef)]]:
                self.assertIsNotNone(ast.get_docstring(node), name)


class Modules(unittest.TestCase):
    def test_imports(self):
        for where, node in everywhere(ast.Import, ast.ImportFrom):
            self.assertIsInstance(node, ast.ImportFrom, where)
            self.assertIsInstance(node.above, ast.Module, where)
            self.assertEqual(node.level, 0, where)
            self.assertRegex(node.module, r"^eacharm\.\w+$", where)
            for name in node.names:
                self.assertIsNone(name.asname, where)
                self.assertIn(name.name, DEFINED[node.module[8:] + ".py"], where)

    def test_imports_are_used(self):
        for name, tree in TREES.items():
            used = {n.id for n in ast.walk(tree) if isinstance(n, ast.Name)}
            for node in tree.body:
                if isinstance(node, ast.ImportFrom):
                    self.assertEqual([a.name for a in node.names if a.name not in used], [], name)

    def test_no_circles(self):
        needs = {
            name: {n.module[8:] + ".py" for n in tree.body if isinstance(n, ast.ImportFrom)}
            for name, tree in TREES.items()}
        while needs:
            free = [name for name in needs if not needs[name] & set(needs)]
            self.assertTrue(free, needs)
            for name in free:
                del needs[name]

    def test_module_level(self):
        for name, tree in TREES.items():
            kinds = (ast.ImportFrom, ast.FunctionDef, ast.ClassDef, ast.Assign, ast.Expr)
            for node in tree.body:
                self.assertIsInstance(node, kinds, name)
                if isinstance(node, ast.Expr):
                    self.assertIsInstance(node.value, ast.Constant, name)
                if isinstance(node, ast.Assign):
                    self.assertEqual(len(node.targets), 1, name)
                    self.assertIsInstance(node.targets[0], ast.Name, name)
                    self.plain(node.value, name)
            bound = [n.name for n in tree.body if isinstance(n, (ast.FunctionDef, ast.ClassDef))]
            bound += [n.targets[0].id for n in tree.body if isinstance(n, ast.Assign)]
            bound += [a.name for n in tree.body if isinstance(n, ast.ImportFrom) for a in n.names]
            self.assertEqual(len(bound), len(set(bound)), name)

    def plain(self, node, where):
        for inner in ast.walk(node):
            allowed = (ast.Constant, ast.Tuple, ast.List, ast.Dict, ast.Load, ast.Name,
                       ast.UnaryOp, ast.USub)
            self.assertIsInstance(inner, allowed, where)
            if isinstance(inner, (ast.List, ast.Dict)):
                self.assertIs(inner, node, where)

    def test_classes(self):
        for where, node in everywhere(ast.ClassDef):
            self.assertIsInstance(node.above, ast.Module, where)
            self.assertEqual((node.decorator_list, node.keywords), ([], []), where)
            for part in node.body:
                self.assertIsInstance(part, (ast.FunctionDef, ast.Expr), where)


class Constructs(unittest.TestCase):
    def test_kinds(self):
        for where, node in everywhere(ast.stmt):
            self.assertIsInstance(node, STATEMENTS, where)
        for where, node in everywhere(ast.expr):
            self.assertIsInstance(node, EXPRESSIONS, where)
        for where, node in everywhere(ast.Div, ast.MatMult, ast.Global, ast.AsyncFunctionDef):
            self.fail(where)

    def test_functions(self):
        for where, node in everywhere(ast.FunctionDef):
            self.assertIsNone(node.returns, where)
            if node.decorator_list:
                self.property_of_a_class(node, where)
            if node.name == "__iter__":
                self.assertRegex(ast.unparse(node.body[-1]), r"^return iter\(self\.\w+\)$", where)
                self.assertEqual(len(node.body), 1, where)
            elif node.name.startswith("__"):
                self.assertEqual(node.name, "__init__", where)
            for value in [*node.args.defaults, *[d for d in node.args.kw_defaults if d]]:
                self.plain_default(value, where)

    def property_of_a_class(self, node, where):
        """A property has one parameter, changes nothing, and no method or attribute has its name."""
        self.assertEqual([ast.unparse(d) for d in node.decorator_list], ["property"], where)
        self.assertIsInstance(node.above, ast.ClassDef, where)
        self.assertEqual(ast.unparse(node.args), "self", where)
        self.assertEqual([n.name for _, n in everywhere(ast.FunctionDef)].count(node.name), 1, where)
        self.assertEqual([w for w, n in everywhere(ast.Attribute) if n.attr == node.name and isinstance(n.ctx, ast.Store)], [], where)
        for inner in ast.walk(node):
            self.assertNotIsInstance(inner, (ast.AugAssign, ast.Delete, ast.Yield), where)
            if isinstance(inner, ast.Call):
                self.assertIsInstance(inner.func, ast.Name, where)
            if isinstance(inner, (ast.Attribute, ast.Subscript)):
                self.assertIsInstance(inner.ctx, ast.Load, where)

    def plain_default(self, value, where):
        for inner in ast.walk(value):
            self.assertIsInstance(inner, (ast.Constant, ast.Tuple, ast.Load), where)

    def test_identity(self):
        for where, node in everywhere(ast.Compare):
            for at, sign in enumerate(node.ops):
                if isinstance(sign, (ast.Is, ast.IsNot)):
                    sides = [node.left, *node.comparators][at:at + 2]
                    right = [s for s in sides if isinstance(s, ast.Constant)
                             and (s.value is None or isinstance(s.value, bool))]
                    self.assertTrue(right, where)

    def test_strings_and_numbers(self):
        for where, node in everywhere(ast.Constant):
            self.assertNotIsInstance(node.value, (float, complex, bytes), where)
            if isinstance(node.value, str) and not isinstance(node.above, ast.Expr):
                self.assertNotIn("%", node.value, where)
                self.assertNotRegex(node.value, r"\._$|\.__$|^__.*__$", where)
                self.assertTrue(NOT_WORDS.isdisjoint(re.findall(r"\w+", node.value)), where)
        for where, node in everywhere(ast.Pow):
            self.fail(where)

    def test_sets(self):
        for where, node in everywhere(ast.Set, ast.SetComp, ast.Call):
            if isinstance(node, ast.Call) and called_name(node) != "set":
                continue
            above = node.above
            inside = called_name(above) in ("sorted", "len") and len(above.args) == 1
            tested = isinstance(above, ast.Compare) and node in above.comparators
            kept = isinstance(above, ast.Assign) and isinstance(above.targets[0], ast.Name)
            self.assertTrue(inside or tested or kept, where)
            if inside:
                self.assertEqual(above.keywords, [], where)

    def test_iterated_at_once(self):
        for where, node in everywhere(ast.Call):
            view = isinstance(node.func, ast.Attribute) and node.func.attr in (
                "items", "keys", "values")
            if called_name(node) in VIEWS or view:
                above = node.above
                loop = isinstance(above, (ast.For, ast.comprehension)) and above.iter is node
                call = called_name(above) in AT_ONCE and above.args[0] is node
                call = call or (called_name(above) == "reversed" and called_name(node) == "range")
                self.assertTrue(loop or call, where)

    def test_generators(self):
        made = {n.name for _, n in everywhere(ast.FunctionDef)
                if any(isinstance(i, (ast.Yield, ast.YieldFrom)) for i in ast.walk(n))}
        for where, node in everywhere(ast.GeneratorExp):
            self.assertIn(called_name(node.above), AT_ONCE - {"enumerate", "zip"} | {"min", "max"}, where)
        for where, node in everywhere(ast.Name):
            if node.id in made:
                above = node.above
                self.assertIs(getattr(above, "func", None), node, where)
                further = above.above
                loop = isinstance(further, (ast.For, ast.comprehension, ast.YieldFrom))
                self.assertTrue(loop or called_name(further) in AT_ONCE, where)

    def test_loops_do_not_change_what_they_go_over(self):
        told = {name: changed_while_walked(tree) for name, tree in TREES.items()}
        self.assertEqual({name: rows for name, rows in told.items() if rows}, {})


class Names(unittest.TestCase):
    def test_plain(self):
        for where, node in everywhere(ast.Name, ast.arg, ast.Attribute, ast.FunctionDef):
            name = getattr(node, "id", None) or getattr(node, "arg", None) or getattr(
                node, "attr", None) or node.name
            if name not in ("__init__", "__iter__"):
                self.assertRegex(name, r"^_?[A-Za-z][A-Za-z0-9_]*$|^_$", where)
                self.assertNotRegex(
                    name, r"^_(wall|pe_|dcw_|enum_|cm_|twin_re_|lay_|law_|stub_|sre|WallAttr)", where)
            self.assertNotIn(name, NEVER, where)
            if not isinstance(node, ast.Attribute):
                self.assertNotIn(name.rstrip("_0123456789") or name, NOT_NAMES | NOT_WORDS, where)
            self.assertNotIn(name, NOT_WORDS, where)

    def test_no_second_meaning(self):
        names_of_builtins = set(dir(builtins))
        for name, tree in TREES.items():
            taken = {n.name for n in tree.body if isinstance(n, ast.ClassDef)}
            taken |= {a.name for n in tree.body if isinstance(n, ast.ImportFrom) for a in n.names}
            defined = [n.name for n in tree.body if isinstance(n, (ast.FunctionDef, ast.ClassDef))]
            self.assertEqual(names_of_builtins.intersection(defined), set(), name)
            for node in ast.walk(tree):
                if isinstance(node, FUNCTIONS):
                    bound = set(bound_names(node))
                    self.assertEqual(bound & (taken | names_of_builtins), set(), name)

    def test_builtins(self):
        for name, tree in TREES.items():
            for node in ast.walk(tree):
                if isinstance(node, ast.Name) and hasattr(builtins, node.id):
                    above = getattr(node.above, "above", None)
                    if isinstance(node.above, ast.FunctionDef) and node in node.above.decorator_list:
                        self.assertEqual(node.id, "property")
                    elif node.id == "iter":
                        self.assertEqual(above.above.name, "__iter__", f"{name}:{node.lineno}")
                    else:
                        self.assertIn(node.id, BUILTINS, f"{name}:{node.lineno}")

    def test_methods(self):
        for where, node in everywhere(ast.Call):
            if isinstance(node.func, ast.Attribute):
                self.assertIn(node.func.attr, METHODS | OWN_METHODS | {"__init__"}, where)
        self.assertEqual((OWN_METHODS - METHODS - {"__init__", "__iter__"}) & BUILTIN_METHODS, set())

    def test_attributes(self):
        assigned = {n.attr for _, n in everywhere(ast.Attribute) if isinstance(n.ctx, ast.Store)}
        self.assertEqual(assigned & BUILTIN_METHODS - {"count", "index", "title", "find", "get"}, set())
        self.assertEqual(assigned & OWN_METHODS, set())
        for where, node in everywhere(ast.Attribute):
            if isinstance(node.ctx, ast.Load) and getattr(node.above, "func", None) is not node:
                self.assertIn(node.attr, assigned, where)

    def test_keywords_of_builtins(self):
        allowed = {"sorted": {"key", "reverse"}, "min": {"key", "default"}, "max": {"key", "default"},
                   "sum": {"start"}, "enumerate": {"start"}, "zip": {"strict"}}
        for where, node in everywhere(ast.Call):
            name = called_name(node)
            if name in BUILTINS:
                self.assertLessEqual({k.arg for k in node.keywords}, allowed.get(name, set()), where)
            if isinstance(node.func, ast.Attribute) and node.func.attr not in OWN_METHODS:
                self.assertEqual(node.keywords, [], where)


if __name__ == "__main__":
    unittest.main()
