"""[2.2] to [2.8]: reading programs, expressions and declarations, and each fault."""

import random
import re
import unittest

from eacharm.errors import ArmError, BadText
from eacharm.reader import read_declaration, read_expression, read_program
from eacharm.trees import all_nodes

# Each form's text, and its tree with the numbers of reading order.
EXPRESSIONS = [
    ("x", ("name", 0, "x")),
    ("a1b2c3d4", ("name", 0, "a1b2c3d4")),
    ("when", ("name", 0, "when")),
    ("12", ("number", 0, 12)),
    ("-3", ("number", 0, -3)),
    ("0", ("number", 0, 0)),
    ("1000000000", ("number", 0, 10**9)),
    ("-1000000000", ("number", 0, -10**9)),
    ("true", ("truth", 0, True)),
    ("false", ("truth", 0, False)),
    ("hole", ("hole", 0)),
    ("(fn x y)", ("fn", 0, "x", ("name", 1, "y"))),
    ("(app f a)", ("app", 0, ("name", 1, "f"), ("name", 2, "a"))),
    ("(let x a b)", ("let", 0, "x", ("name", 1, "a"), ("name", 2, "b"))),
    ("(rec ((f a)) b)", ("rec", 0, (("f", ("name", 1, "a")),), ("name", 2, "b"))),
    ("(rec ((f 1) (g 2) (h 3) (i 4)) 5)",
     ("rec", 0, tuple((name, ("number", k, k)) for name, k in zip("fghi", range(1, 5))), ("number", 5, 5))),
    ("(if a b c)", ("if", 0, ("name", 1, "a"), ("name", 2, "b"), ("name", 3, "c"))),
    ("(+ a b)", ("op", 0, "+", ("name", 1, "a"), ("name", 2, "b"))),
    ("(- a -1)", ("op", 0, "-", ("name", 1, "a"), ("number", 2, -1))),
    ("(< a b)", ("op", 0, "<", ("name", 1, "a"), ("name", 2, "b"))),
    ("(= a b)", ("op", 0, "=", ("name", 1, "a"), ("name", 2, "b"))),
    ("(tuple 1 2)", ("tuple", 0, (("number", 1, 1), ("number", 2, 2)))),
    ("(tuple 1 2 3 4)", ("tuple", 0, tuple(("number", k, k) for k in range(1, 5)))),
    ("(record)", ("record", 0, ())),
    ("(record (l 1) (m 2))", ("record", 0, (("l", ("number", 1, 1)), ("m", ("number", 2, 2))))),
    ("(record (l 1) (l 2))", ("record", 0, (("l", ("number", 1, 1)), ("l", ("number", 2, 2))))),
    ("(get l e)", ("get", 0, "l", ("name", 1, "e"))),
    ("(extend l e r)", ("extend", 0, "l", ("name", 1, "e"), ("name", 2, "r"))),
    ("(update l e r)", ("update", 0, "l", ("name", 1, "e"), ("name", 2, "r"))),
    ("(without l r)", ("without", 0, "l", ("name", 1, "r"))),
    ("(tag l e)", ("tag", 0, "l", ("name", 1, "e"))),
    ("(case e (l x a))", ("case", 0, ("name", 1, "e"), (("l", "x", ("name", 2, "a")),), None)),
    ("(case e (l x a) (m y b) (else z c))",
     ("case", 0, ("name", 1, "e"), (("l", "x", ("name", 2, "a")), ("m", "y", ("name", 3, "b"))), (
         "z", ("name", 4, "c")))),
    ("(make c e)", ("make", 0, "c", ("name", 1, "e"))),
    ("(match e (_ a))", ("match", 0, ("name", 1, "e"), (("arm", 2, ("any", 3), ("name", 4, "a")),))),
    ("(match e (when A ((_ a)) ()) (x b))",
     ("match", 0, ("name", 1, "e"), (
         ("when", 2, "A", (("arm", 3, ("any", 4), ("name", 5, "a")),), ()),
         ("arm", 6, ("name", 7, "x"), ("name", 8, "b"))))),
    ("(match e (when a))", ("match", 0, ("name", 1, "e"), (("arm", 2, ("name", 3, "when"), ("name", 4, "a")),))),
    ("(cell int e)", ("cell", 0, ("int", 1), ("name", 2, "e"))),
    ("(read e)", ("read", 0, ("name", 1, "e"))),
    ("(write a b)", ("write", 0, ("name", 1, "a"), ("name", 2, "b"))),
    ("(is e bool)", ("is", 0, ("name", 1, "e"), ("bool", 2))),
    ("(choose A a b)", ("choose", 0, "A", ("name", 1, "a"), ("name", 2, "b"))),
    ("(choose Abc12345 a b)", ("choose", 0, "Abc12345", ("name", 1, "a"), ("name", 2, "b"))),
    ("(mark 2 e)", ("mark", 0, 2, ("name", 1, "e"))),
    ("(member m x)", ("member", 0, "m", "x")),
]
PATTERNS = [
    ("_", ("any", 0)),
    ("x", ("name", 0, "x")),
    ("-7", ("number", 0, -7)),
    ("true", ("truth", 0, True)),
    ("(tuple _ x)", ("tuple", 0, (("any", 1), ("name", 2, "x")))),
    ("(record)", ("record", 0, ())),
    ("(record (l _) (m x))", ("record", 0, (("l", ("any", 1)), ("m", ("name", 2, "x"))))),
    ("(make c x)", ("make", 0, "c", ("name", 1, "x"))),
    ("(choose A x 1)", ("choose", 0, "A", ("name", 1, "x"), ("number", 2, 1))),
]
WRITTEN = [
    ("int", ("int", 0)),
    ("bool", ("bool", 0)),
    ("t", ("named", 0, "t")),
    ("(to int bool)", ("arrow", 0, ("int", 1), ("bool", 2))),
    ("(tuple int t bool)", ("tuple", 0, (("int", 1), ("named", 2, "t"), ("bool", 3)))),
    ("(record)", ("record", 0, ())),
    ("(record (l int))", ("record", 0, (("l", ("int", 1)),))),
    ("(tags)", ("variant", 0, ())),
    ("(tags (l int) (m t))", ("variant", 0, (("l", ("int", 1)), ("m", ("named", 2, "t"))))),
    ("(of d)", ("of", 0, "d", ())),
    ("(of d int t int)", ("of", 0, "d", (("int", 1), ("named", 2, "t"), ("int", 3)))),
    ("(cell int)", ("cell", 0, ("int", 1))),
    ("(from m t)", ("from", 0, "m", "t")),
    ("(choose A int bool)", ("choose", 0, "A", ("int", 1), ("bool", 2))),
]
DECLARATIONS = [
    ("(data d () (c int))", ("data", 0, "d", (), (("maker", 1, "c", ("int", 2)),))),
    ("(data d (p q r) (c p) (when A ((e int)) ()))",
     ("data", 0, "d", ("p", "q", "r"), (
         ("maker", 1, "c", ("named", 2, "p")), ("when", 3, "A", (("maker", 4, "e", ("int", 5)),), ())))),
    ("(data d () (when int))", ("data", 0, "d", (), (("maker", 1, "when", ("int", 2)),))),
    ("(def x 1)", ("def", 0, "x", ("number", 1, 1))),
    ("(defrec (f 1) (g 2))", ("defrec", 0, (("f", ("number", 1, 1)), ("g", ("number", 2, 2))))),
    ("(sig s)", ("sig", 0, "s", ())),
    ("(sig s (hide t) (val x (a b c) a) (when A () ((hide u))))",
     ("sig", 0, "s", (
         ("hide", 1, "t"), ("val", 2, "x", ("a", "b", "c"), ("named", 3, "a")),
         ("when", 4, "A", (), (("hide", 5, "u"),))))),
    ("(module m (struct))", ("module", 0, "m", ("struct", 1, ()), None)),
    ("(module m (struct (alias t int) (def x 1) (defrec (f 2)) (when A () ((alias u t)))) s)",
     ("module", 0, "m", ("struct", 1, (
         ("alias", 2, "t", ("int", 3)), ("def", 4, "x", ("number", 5, 1)),
         ("defrec", 6, (("f", ("number", 7, 2)),)),
         ("when", 8, "A", (), (("alias", 9, "u", ("named", 10, "t")),)))), "s")),
    ("(module m (apply f n))", ("module", 0, "m", ("apply", 1, "f", "n"), None)),
    ("(module m (choose A (struct) (apply f n)) s)",
     ("module", 0, "m", ("choose", 1, "A", ("struct", 2, ()), ("apply", 3, "f", "n")), "s")),
    ("(functor f (x s) ((def y 1)) ((hide t)))",
     ("functor", 0, "f", "x", "s", (("def", 1, "y", ("number", 2, 1)),), (("hide", 3, "t"),))),
    ("(functor f (x s) () ())", ("functor", 0, "f", "x", "s", (), ())),
    ("(alias t int)", ("alias", 0, "t", ("int", 1))),
    ("(when A ((def x 1) (alias t int)) ((data d () (c int)) (when B ((alias t int)) ((sig s)))))",
     ("when", 0, "A", (("def", 1, "x", ("number", 2, 1)), ("alias", 3, "t", ("int", 4))), (
         ("data", 5, "d", (), (("maker", 6, "c", ("int", 7)),)),
         ("when", 8, "B", (("alias", 9, "t", ("int", 10)),), (("sig", 11, "s", ()),))))),
]


def shifted(thing, by):
    """A tree with greater numbers."""
    if not isinstance(thing, tuple):
        return thing
    if len(thing) > 1 and isinstance(thing[0], str) and type(thing[1]) is int:
        return (thing[0], thing[1] + by, *[shifted(part, by) for part in thing[2:]])
    return tuple(shifted(part, by) for part in thing)


def filler(count):
    """The text of an expression of so many nodes."""
    if count <= 2:
        return ["1", "(read 1)"][count - 1]
    many = min(4, count - 1)
    sizes = [(count - 1) // many + (at < (count - 1) % many) for at in range(many)]
    return "(tuple " + " ".join(map(filler, sizes)) + ")"


class Reading(unittest.TestCase):
    def fault(self, text, place, what, read=read_program):
        with self.assertRaises(BadText) as caught:
            read(text)
        self.assertEqual((caught.exception.place, caught.exception.what), (place, what), text)

    def at(self, marked, what, read=read_program):
        """A fault whose place has a ^ before it; a program's main stands in ~ and ~."""
        if "~" in marked:
            marked = marked.replace("~", "(program (main ", 1) + "))"
        self.assertEqual(marked.count("^"), 1, marked)
        self.fault(marked.replace("^", ""), marked.index("^"), what, read)


class Forms(Reading):
    def test_examples(self):
        self.assertEqual(
            read_program("(program (main (app (fn x x) 3)))"),
            ("program", 0, (), ("app", 1, ("fn", 2, "x", ("name", 3, "x")), ("number", 4, 3))))
        self.fault("(program (main (app f)))", 15, "form")
        self.assertTrue(issubclass(BadText, ArmError))

    def test_expressions(self):
        for text, tree in EXPRESSIONS:
            self.assertEqual(read_expression(text), tree, text)
            self.assertEqual(read_program(f"(program (main {text}))"), ("program", 0, (), shifted(tree, 1)))

    def test_patterns(self):
        for text, tree in PATTERNS:
            found = read_expression(f"(match e ({text} a))")
            self.assertEqual(found[3][0][2], shifted(tree, 3), text)

    def test_written(self):
        for text, tree in WRITTEN:
            self.assertEqual(read_expression(f"(is e {text})")[3], shifted(tree, 2), text)
            self.assertEqual(read_declaration(f"(alias t {text})")[3], shifted(tree, 1), text)

    def test_declarations(self):
        for text, tree in DECLARATIONS:
            self.assertEqual(read_declaration(text), tree, text)
            if "alias" not in text or "struct" in text:
                program = read_program(f"(program {text} (main 0))")
                self.assertEqual(program[2], (shifted(tree, 1),), text)
                self.assertEqual(program[3][1], len(all_nodes(program)) - 1)

    def test_program_of_several_declarations(self):
        text = "(program (def x 1) (when A ((def y 2)) ()) (main x))"
        self.assertEqual(read_program(text), ("program", 0, (
            ("def", 1, "x", ("number", 2, 1)),
            ("when", 3, "A", (("def", 4, "y", ("number", 5, 2)),), ())), ("name", 6, "x")))

    def test_blanks_and_line_feeds_at_all_places(self):
        texts = [f"(program {text} (main hole))" for text, _ in DECLARATIONS if "alias" not in text or "struct" in text]
        texts += [f"(program (main {text}))" for text, _ in EXPRESSIONS]
        chance = random.Random(1)
        for text in texts:
            words = re.findall(r"[()]|[^\s()]+", text)
            for _ in range(3):
                blanks = lambda least: "".join(chance.choice(" \n") for _ in range(chance.randint(least, least + 2)))
                wide = blanks(0)
                for word, behind in zip(words, [*words[1:], ")"]):
                    wide += word + blanks(0 if word in "()" or behind in "()" else 1)
                self.assertEqual(read_program(wide), read_program(text), wide)
            tight = re.sub(r" ?([()]) ?", r"\1", text)
            self.assertEqual(read_program(tight), read_program(text), tight)


class SignsAndBrackets(Reading):
    def test_long(self):
        text = "(program (main 1))"
        self.assertEqual(read_program(text + " " * (4000 - len(text)))[3], ("number", 1, 1))
        self.fault(text + " " * (4001 - len(text)), 4000, "long")
        self.fault("%" * 5000, 4000, "long")

    def test_signs(self):
        for sign in "\t\r\"'*/.,;:!?[]{}|&~^@#$%>\\\xa0\xe9\u0660\u00b2":
            self.fault(f"(program (main x{sign}))", 16, "sign")
        self.fault(")?", 1, "sign")
        self.fault("(?!", 1, "sign")
        self.fault("", 0, "bracket")

    def test_brackets(self):
        self.fault(")", 0, "bracket")
        self.fault("(program (main 1)))", 18, "bracket")
        self.fault("(program (main 1)", 17, "bracket")
        self.fault("  \n ", 4, "bracket")
        self.fault("(", 1, "bracket")
        self.fault("(program (main 1)) x", 19, "after")
        self.fault("(program (main 1)) (", 19, "after")
        self.fault("(program (main 1))()", 18, "after")
        self.fault("x y", 2, "after")
        self.fault("x(", 1, "after")
        self.fault("(x)y", 3, "after")
        # What stands first counts: behind the first item or without an open bracket.
        self.fault("(x) ) y", 4, "bracket")
        self.fault("(x) y )", 4, "after")
        # Brackets are looked at before items.
        self.fault("(bad (", 6, "bracket")

    def test_deep(self):
        self.fault("(" * 31, 30, "deep")
        self.fault("(" * 30, 30, "bracket")
        text = "(program (main " + "(read " * 28 + "1" + ")" * 30
        self.assertEqual(len(all_nodes(read_program(text))), 30)
        self.fault("(program (main " + "(read " * 29 + "1" + ")" * 31, 15 + 28 * 6, "deep")
        self.fault("() " + "(" * 31, 3, "after")
        self.fault("(" + "()" * 40 + ")", 0, "form")


class Items(Reading):
    def test_words_where_brackets_must_stand(self):
        self.fault("program", 0, "form")
        self.fault("x", 0, "form", read_declaration)
        for marked in ["(program ^x (main 1))", "(program ^main)", "(program (def x 1) ^x)",
                       "(program (data d ^p (c int)) (main 1))", "(program (data d () ^c) (main 1))",
                       "(program (data d () (when A ^c ())) (main 1))", "(program (defrec ^f) (main 1))",
                       "(program (sig s ^hide) (main 1))", "(program (sig s (val x ^a int)) (main 1))",
                       "(program (module m ^struct) (main 1))", "(program (module m (struct ^x)) (main 1))",
                       "(program (functor f ^x () ()) (main 1))", "(program (functor f (x s) ^y ()) (main 1))",
                       "(program (functor f (x s) () ^y) (main 1))", "(program (when A ^x ()) (main 1))",
                       "~(rec ^f 1)", "~(rec (^f) 1)", "~(record ^l)", "~(case 1 ^l)", "~(case 1 (l x 2) ^else)",
                       "~(match 1 ^x)", "~(match 1 ((record ^l) 2))", "~(is 1 (record ^l))",
                       "~(match 1 (when A ^x ()))"]:
            self.at(marked, "form")

    def test_brackets_where_words_must_stand(self):
        for marked in ["~(fn ^(x) 1)", "~(let ^(x) 1 2)", "~(rec ((^(f) 1)) 2)", "~(record (^(l) 1))",
                       "~(get ^(l) 1)", "~(tag ^() 1)", "~(case 1 (^(l) x 2))", "~(case 1 (l ^(x) 2))",
                       "~(make ^(c) 1)", "~(choose ^(A) 1 2)", "~(mark ^(1) 2)", "~(member ^(m) x)",
                       "~(member m ^(x))", "~(is 1 (of ^(d)))", "~(is 1 (from m ^(t)))",
                       "~(match 1 ((make ^(c) x) 2))", "~(case 1 (l x 2) (else ^(z) 3))",
                       "(program (data ^(d) () (c int)) (main 1))", "(program (data d (^(p)) (c int)) (main 1))",
                       "(program (data d () (^(c) int)) (main 1))", "(program (sig s (hide ^(t))) (main 1))",
                       "(program (module m (struct) ^(s)) (main 1))",
                       "(program (functor f (^(x) s) () ()) (main 1))"]:
            self.at(marked, "form")

    def test_unknown_heads(self):
        for marked in ["^(prog (main 1))", "^(main 1)", "(program ^(foo) (main 1))", "(program ^() (main 1))",
                       "(program ^((def) x 1) (main 1))", "(program ^(alias t int) (main 1))",
                       "(program ^(main 1) (main 1))", "(program (def x 1) ^(def y 2))",
                       "(program (module m ^(module n)) (main 1))", "(program (module m (struct ^(data d () (c int)))) (main 1))",
                       "(program (module m (struct ^(sig s))) (main 1))", "(program (module m (struct ^(module n (struct)))) (main 1))",
                       "(program (module m (struct ^(functor f (x s) () ()))) (main 1))",
                       "(program (functor f (x s) (^(sig t)) ()) (main 1))",
                       "(program (functor f (x s) () (^(def x 1))) (main 1))", "(program (sig s ^(def x 1)) (main 1))",
                       "(program (module m (struct (when A (^(sig s)) ()))) (main 1))",
                       "(program (when A (^(alias t int)) ()) (main 1))", "(program (sig s (when A (^(def x 1)) ())) (main 1))",
                       "~^()", "~^(foo 1)", "~^((fn x 1) 2)", "~^(1 2)", "~^(to int int)", "~^(program (main 1))",
                       "~(match 1 (^(fn x 1) 2))", "~(match 1 (^(tags) 2))", "~(match 1 (^() 2))",
                       "~(is 1 ^(fn x 1))", "~(is 1 ^(variant))", "~(is 1 ^())", "~(is 1 ^(app f x))",
                       "~^(op + 1 2)", "~^(any)", "~^(name x)"]:
            self.at(marked, "form")

    def test_too_few_and_too_many_items(self):
        fixed = {"fn": "x 1", "app": "1 2", "let": "x 1 2", "rec": "((f 1)) 2", "if": "1 2 3", "+": "1 2",
                 "-": "1 2", "<": "1 2", "=": "1 2", "get": "l 1", "extend": "l 1 2", "update": "l 1 2",
                 "without": "l 1", "tag": "l 1", "make": "c 1", "cell": "int 1", "read": "1", "write": "1 2",
                 "is": "1 int", "choose": "A 1 2", "mark": "1 2", "member": "m x"}
        for head, rest in fixed.items():
            self.assertEqual(read_expression(f"({head} {rest})")[1], 0)
            self.fault(f"({head} {rest} x)", 0, "form", read_expression)
            self.fault(f"({head})", 0, "form", read_expression)
            shorter = " ".join(re.findall(r"\(\(.*\)\)|\S+", rest)[:-1])
            self.fault(f"({head} {shorter})", 0, "form", read_expression)
        for marked in ["~^(tuple)", "~^(tuple 1)", "~^(case)", "~^(case 1)", "~^(case 1 (else z 2))", "~^(match)",
                       "~^(match 1)", "~(rec ^() 1)", "~(rec ((f 1) ^(g)) 1)", "~(rec (^(f 1 2)) 1)",
                       "~(record ^(l))", "~(record ^(l 1 2))", "~(record ^())", "~(case 1 ^(l x))",
                       "~(case 1 ^(l x 2 3))", "~(case 1 (l x 2) ^(else z))", "~(case 1 (l x 2) ^(else z 3 4))",
                       "~(match 1 ^(x))", "~(match 1 ^(x 2 3))", "~(match 1 ^())", "~(match 1 ^(when A ()))",
                       "~(match 1 ^(when A () () ()))", "~(match 1 ^(x A () ()))",
                       "~(match 1 (^(tuple x) 2))", "~(match 1 (^(make c) 2))", "~(match 1 (^(make c x y) 2))",
                       "~(match 1 (^(choose A x) 2))", "~(match 1 ((record ^(l)) 2))",
                       "~(is 1 ^(to int))", "~(is 1 ^(to int int int))", "~(is 1 ^(tuple int))", "~(is 1 ^(of))",
                       "~(is 1 ^(cell))", "~(is 1 ^(cell int int))", "~(is 1 ^(from m))", "~(is 1 ^(from m t u))",
                       "~(is 1 ^(choose A int))", "~(is 1 (tags ^(l)))",
                       "^(program)", "^()", "(program ^(main))", "(program ^(main 1 2))",
                       "(program ^(def x) (main 1))", "(program ^(def x 1 2) (main 1))",
                       "(program ^(data d) (main 1))", "(program ^(data d ()) (main 1))",
                       "(program (data d () ^(c)) (main 1))", "(program (data d () ^(c int int)) (main 1))",
                       "(program (data d () ^(c A () ())) (main 1))", "(program (data d () ^(when A ())) (main 1))",
                       "(program ^(defrec) (main 1))", "(program (defrec ^(f)) (main 1))",
                       "(program ^(sig) (main 1))", "(program (sig s ^(hide)) (main 1))",
                       "(program (sig s ^(hide t u)) (main 1))", "(program (sig s ^(val x ())) (main 1))",
                       "(program (sig s ^(val x () int int)) (main 1))", "(program (sig s ^(when A ())) (main 1))",
                       "(program ^(module m) (main 1))", "(program ^(module m (struct) s t) (main 1))",
                       "(program (module m ^(apply f)) (main 1))", "(program (module m ^(apply f n o)) (main 1))",
                       "(program (module m ^(choose A (struct))) (main 1))",
                       "(program ^(functor f (x s) ()) (main 1))", "(program ^(functor f (x s) () () ()) (main 1))",
                       "(program (functor f ^(x) () ()) (main 1))", "(program (functor f ^(x s t) () ()) (main 1))",
                       "(program ^(when A ()) (main 1))", "(program ^(when A () () ()) (main 1))"]:
            self.at(marked, "form")
        self.fault("(alias t)", 0, "form", read_declaration)

    def test_names(self):
        for word in ["true", "false", "hole", "int", "bool", "else", "A", "aB", "abcdefghi", "a-b", "a_b", "_", "+",
                     "-", "=", "1", "1a", "-1"]:
            for marked in [f"~(fn ^{word} 1)", f"~(let ^{word} 1 2)", f"~(record (^{word} 1))", f"~(tag ^{word} 1)",
                           f"~(rec ((^{word} 1)) 2)", f"~(case 1 (l ^{word} 2))", f"~(case 1 (^{word} x 2) (m y 3))",
                           f"~(member ^{word} x)", f"~(member m ^{word})", f"~(make ^{word} 1)",
                           f"~(is 1 (of ^{word}))", f"~(is 1 (from m ^{word}))", f"~(is 1 (tags (^{word} int)))",
                           f"(program (def ^{word} 1) (main 1))", f"(program (data ^{word} () (c int)) (main 1))",
                           f"(program (data d (^{word}) (c int)) (main 1))", f"(program (data d () (^{word} int)) (main 1))",
                           f"(program (sig ^{word}) (main 1))", f"(program (sig s (hide ^{word})) (main 1))",
                           f"(program (sig s (val x (^{word}) int)) (main 1))", f"(program (module m (struct) ^{word}) (main 1))",
                           f"(program (module m (apply ^{word} n)) (main 1))", f"(program (functor f (^{word} s) () ()) (main 1))",
                           f"(program (functor f (x ^{word}) () ()) (main 1))"]:
                self.at(marked, "name")
        for word in ["A", "aB", "abcdefghi", "a-b", "x_", "_", "+", "-", "<", "=", "int", "bool", "else"]:
            self.at(f"~(read ^{word})", "name")
        for word in ["hole", "int", "else", "X", "+"]:
            self.at(f"~(match 1 (^{word} 2))", "name")
        for word in ["1", "-1", "true", "false", "hole", "else", "_", "A", "-"]:
            self.at(f"~(is 1 ^{word})", "name")

    def test_switches(self):
        for word in ["a", "abc", "1", "A_", "ABCDEFGHI", "A-", "-", "_", "e1", "m1"]:
            for marked in [f"~(choose ^{word} 1 2)", f"~(match 1 ((choose ^{word} x y) 2))", f"~(is 1 (choose ^{word} int int))",
                           f"~(match 1 (when ^{word} () ()))", f"(program (when ^{word} () ()) (main 1))",
                           f"(program (data d () (when ^{word} () ())) (main 1))", f"(program (sig s (when ^{word} () ())) (main 1))",
                           f"(program (module m (choose ^{word} (struct) (struct))) (main 1))"]:
                self.at(marked, "switch")
        whens = " ".join(f"(when S{k} () ())" for k in range(8))
        self.assertEqual(read_program(f"(program {whens} (main (choose S0 1 2)))")[3][2], "S0")
        self.at(f"(program {whens} (main (choose ^S8 1 2)))", "switch")
        self.at(f"(program {whens} (when S3 () ()) (when ^B () ()) (main 1))", "switch")

    def test_numbers(self):
        for word in ["00", "01", "-0", "-01", "1000000001", "-1000000001", "99999999999999999999", "1a", "1_", "-a",
                     "--1", "1-", "1+", "-1a", "0x1", "-_", "-="]:
            self.at(f"~(read ^{word})", "number")
            self.at(f"~(match 1 (^{word} 2))", "number")

    def test_marks(self):
        for word in ["0", "7", "01", "-1", "a", "x", "true", "10", "A", "_"]:
            self.at(f"~(mark ^{word} 1)", "mark")
        six = "1"
        for k in range(1, 7):
            six = f"(mark {k} {six})"
        self.assertEqual(len(all_nodes(read_expression(six))), 7)
        self.at("~(mark 1 (mark ^1 2))", "mark")
        self.at("~(tuple (mark 3 1) (mark 2 1) (mark ^3 1))", "mark")


class Bounds(Reading):
    def test_counts(self):
        many = lambda text, count: " ".join([text] * count)
        # (text with the things in the place of a #, one thing, least, greatest, place of the fault)
        rows = [
            ("~^(tuple #)", "1", 2, 4), ("~^(record #)", "(l 1)", 0, 8), ("~^(case 1 #)", "(l x 1)", 1, 8),
            ("~^(case 1 # (else z 1))", "(l x 1)", 1, 8), ("~^(match 1 #)", "(x 1)", 1, 8),
            ("~(match 1 (when A ^(#) ()))", "(x 1)", 0, 8), ("~(match 1 (when A () ^(#)))", "(x 1)", 0, 8),
            ("~(rec ^(#) 1)", "(f 1)", 1, 4), ("~(match 1 (^(tuple #) 1))", "x", 2, 4),
            ("~(match 1 (^(record #) 1))", "(l x)", 0, 8), ("~(is 1 ^(tuple #))", "int", 2, 4),
            ("~(is 1 ^(record #))", "(l int)", 0, 8), ("~(is 1 ^(tags #))", "(l int)", 0, 8),
            ("~(is 1 ^(of d #))", "int", 0, 3), ("(program (data d ^(#) (c int)) (main 1))", "p", 0, 3),
            ("(program ^(data d () #) (main 1))", "(c int)", 1, 6),
            ("(program (data d () (when A ^(#) ())) (main 1))", "(c int)", 0, 6),
            ("(program (data d () (when A () ^(#))) (main 1))", "(c int)", 0, 6),
            ("(program ^(defrec #) (main 1))", "(f 1)", 1, 4), ("(program ^(sig s #) (main 1))", "(hide t)", 0, 30),
            ("(program (sig s (when A ^(#) ())) (main 1))", "(hide t)", 0, 30),
            ("(program (sig s (val x ^(#) int)) (main 1))", "a", 0, 3),
            ("(program (module m ^(struct #)) (main 1))", "(def x 1)", 0, 30),
            ("(program (functor f (x s) ^(#) ()) (main 1))", "(def x 1)", 0, 30),
            ("(program (functor f (x s) () ^(#)) (main 1))", "(hide t)", 0, 30),
            ("(program (when A ^(#) ()) (main 1))", "(def x 1)", 0, 30),
            ("(program (when A () ^(#)) (main 1))", "(sig s)", 0, 30),
            ("^(program # (main 1))", "(def x 1)", 0, 30),
        ]
        for text, thing, least, most in rows:
            for count in {least, most, least + 1}:
                whole = text.replace("~", "(program (main ") + "))" * text.startswith("~")
                read_program(whole.replace("^", "").replace("#", many(thing, count)))
            self.at(text.replace("#", many(thing, most + 1)), "many")
            self.at(text.replace("#", many(thing, most + 2)), "many")
            if least:
                self.at(text.replace("#", many(thing, least - 1)), "form")

    def test_nodes(self):
        full = f"(program (main (tuple {filler(397)} 1)))"
        self.assertEqual(len(all_nodes(read_program(full))), 400)
        self.at(f"~(tuple {filler(397)} 1 ^1)", "nodes")
        self.at(f"~(tuple {filler(397)} (read ^1))", "nodes")
        self.at(f"~(tuple {filler(398)} ^(read 1))", "nodes")
        self.at(f"~(match {filler(398)} ^(x 1))", "nodes")
        self.at(f"~(match {filler(397)} (^x 1))", "nodes")
        self.at(f"~(is {filler(398)} ^int)", "nodes")
        self.at(f"(program (def x {filler(398)}) ^(sig s) (main 1))", "nodes")
        self.at(f"(program (def x {filler(397)}) (sig s ^(hide t)) (main 1))", "nodes")
        self.at(f"(program (def x {filler(397)}) (module m ^(struct)) (main 1))", "nodes")
        self.at(f"(program (def x {filler(397)}) (data d () ^(c int)) (main 1))", "nodes")
        # What is no node has no number.
        self.assertEqual(len(all_nodes(read_program(f"(program (main (record (l {filler(398)}))))"))), 400)

    def test_order_about_nodes(self):
        # A node that is one too many is due before its own words, and behind its form.
        self.at(f"~(tuple {filler(398)} ^-0)", "nodes")
        self.at(f"~(tuple {filler(398)} ^A)", "nodes")
        self.at(f"~(tuple {filler(398)} ^(fn A 1))", "nodes")
        self.at(f"~(tuple {filler(398)} ^(fn A))", "form")
        self.at(f"~(tuple {filler(398)} ^(foo))", "form")
        self.at(f"~(tuple {filler(398)} ^(tuple 1 1 1 1 1))", "many")
        self.at(f"~(tuple {filler(397)} (fn ^A 1))", "name")
        self.at(f"~(tuple {filler(397)} ^-0 1)", "number")


class Order(Reading):
    def test_kinds_of_faults(self):
        self.fault("(" * 40 + "?" + "x" * 5000, 4000, "long")
        self.fault("(program (main 1)) x ?", 21, "sign")
        self.fault("(foo) x", 6, "after")
        self.fault("(foo", 4, "bracket")

    def test_reading_order(self):
        for marked, what in [
                ("~(tuple ^- (fn A 1))", "name"), ("~(let ^1 (app) A)", "name"),
                ("(program (def x ^-0) (main (bad)))", "number"), ("(program ^(foo) (def A 1) (main 1))", "form"),
                ("(program (def ^A 1) (foo) (main 1))", "name"), ("~(case ^A (l x) (else z))", "name"),
                ("~(case 1 ^(l x) (else z))", "form"), ("~(case 1 (l x ^A) (else z))", "name"),
                ("~(match 1 (^X 01) (when a () ()))", "name"), ("~(match 1 (x ^01) (when a () ()))", "number"),
                ("(program (data ^D p (c int)) (main 1))", "name"), ("(program (data d ^p (C int)) (main 1))", "form"),
                ("(program (data d (p) (^C (bad))) (main 1))", "name"), ("(program (module ^M (bad) S) (main 1))", "name"),
                ("(program (module m ^(bad) S) (main 1))", "form"), ("(program (module m (struct) ^S) (main 1))", "name"),
                ("(program (functor f (x ^S) y z) (main 1))", "name")]:
            self.at(marked, what)

    def test_words_of_the_first_fault(self):
        self.at("~(app ^(bad) 01)", "form")
        self.at("~(app ^01 (bad))", "number")
        self.at("~(fn ^A (bad))", "name")
        self.at("~^(fn A (bad) 1)", "form")
        self.at("~^(tuple (bad) 1 1 1 1)", "many")
        self.at("~^(record (l) (l) (l) (l) (l) (l) (l) (l) (l))", "many")
        self.at("~(rec ^((f) (g) (h) (i) (j)) A)", "many")
        self.at("~(let x ^(app) A)", "form")
        self.at("~(choose ^a 01 02)", "switch")
        self.at("~(mark ^9 (bad))", "mark")
        self.at("~(mark 1 (mark ^1 (bad)))", "mark")

    def test_one_text_alone(self):
        # Marks and switches of one text say nothing about the next.
        for _ in range(2):
            self.assertEqual(read_expression("(mark 1 (choose A 1 2))")[2], 1)
        for k in range(10):
            self.assertEqual(read_expression(f"(choose S{k} 1 2)")[2], f"S{k}")
            self.assertEqual(read_declaration(f"(when S{k} () ())")[2], f"S{k}")


class Parts(Reading):
    def test_expressions(self):
        self.fault("(def x 1)", 0, "form", read_expression)
        self.fault("(program (main 1))", 0, "form", read_expression)
        self.fault("_", 0, "name", read_expression)
        self.fault("x x", 2, "after", read_expression)
        self.fault("", 0, "bracket", read_expression)
        self.fault(" (fn x", 6, "bracket", read_expression)
        self.at("(tuple 1 ^(bad))", "form", read_expression)
        self.assertEqual(read_expression(" \n x "), ("name", 0, "x"))

    def test_declarations(self):
        self.fault("(main 1)", 0, "form", read_declaration)
        self.fault("(fn x 1)", 0, "form", read_declaration)
        self.fault("(hide t)", 0, "form", read_declaration)
        self.fault("()", 0, "form", read_declaration)
        self.at("(when A (^(hide t)) ())", "form", read_declaration)
        self.at("(module m (struct ^(sig s)))", "form", read_declaration)
        self.at("(functor f (x s) ((when A () (^(data d () (c int))))) ())", "form", read_declaration)
        self.at(f"(when A ^({'(sig s)' * 31}) ())", "many", read_declaration)
        self.at("(alias ^T int)", "name", read_declaration)
        self.at("(alias t ^(fn x 1))", "form", read_declaration)

    def test_bounds_hold_for_the_text_alone(self):
        self.assertEqual(len(all_nodes(read_expression(filler(400)))), 400)
        self.at(f"(tuple {filler(399)} ^1)", "nodes", read_expression)
        self.at(f"(def x (tuple {filler(398)} ^1))", "nodes", read_declaration)


if __name__ == "__main__":
    unittest.main()
