"""Part 4: faults of names, and what binds each use."""

import copy
import random
import unittest

from eacharm import reading
from eacharm.choosing import chosen
from eacharm.errors import BadText
from eacharm.reader import read_program
from eacharm.scoping import binders, names_table
from eacharm.tables import value_at
from eacharm.trees import all_nodes
from bareterms import BareData, BareTerms
from plainnames import names_fault, plain_binders
from programs import Programs
from samples import PLACES, Trees
from settings import every_setting, table_faults

A_ON, A_OFF = ("A", True, False), ("A", False, True)


def marked(text):
    """A program's text with a ^ before one node, and the number of that node."""
    at = text.index("^")
    before = text[:at] + text[at + 1:]
    program = read_program(before)
    # The node whose text begins at the place has as many nodes before it as the text has there.
    for number in range(len(all_nodes(program))):
        if place_of(before, number) == at:
            return program, number
    raise AssertionError(text)


def place_of(text, number):
    """Where the node with the number begins: the place of the first node that is too many."""
    most, reading.MOST_NODES = reading.MOST_NODES, number
    try:
        read_program(text)
    except BadText as error:
        return error.place
    finally:
        reading.MOST_NODES = most


class Tables(unittest.TestCase):
    def fault(self, text, word):
        """The text has a ^ before the node that is at fault; ~ and ~ is a main."""
        text = text.replace("~", "(program (main ", 1) + "))" * ("~" in text)
        program, number = marked(text)
        self.assertEqual(names_table(program), ((True, (number, word)),), text)

    def good(self, text):
        text = text.replace("~", "(program (main ", 1) + "))" * ("~" in text)
        self.assertEqual(names_table(read_program(text)), (), text)


class Examples(Tables):
    def test_examples(self):
        p = read_program("(program (def x 1) (main (choose A x (app y x))))")
        self.assertEqual(names_table(p), ((A_OFF, (6, "unknown")),))
        self.assertEqual(binders(p), {4: ((A_ON, 1),), 7: ((A_OFF, 1),)})
        self.assertEqual(names_table(read_program("(program (data s () (c (of s))) (main 0))")), ((True, (1, "endless")),))

    def test_what_is_returned(self):
        p = read_program("(program (main x))")
        self.assertEqual(names_table(p), ((True, (1, "unknown")),))
        self.assertEqual(binders(p), {})
        self.assertEqual(names_table(read_program("(program (main 1))")), ())
        self.assertEqual(list(binders(read_program("(program (def x 1) (main (tuple x x x)))"))), [4, 5, 6])


class Unknown(Tables):
    def test_values(self):
        self.fault("~^x", "unknown")
        self.fault("~(fn x ^y)", "unknown")
        self.fault("~(tuple (fn x x) ^x)", "unknown")
        self.fault("~(let x ^x 1)", "unknown")
        self.fault("~(app (let x 1 x) ^x)", "unknown")
        self.fault("~(tuple (rec ((f (fn x f))) f) ^f)", "unknown")
        self.fault("~(case (tag l 1) (l x x) (m y ^x))", "unknown")
        self.fault("~(case ^x (l x x))", "unknown")
        self.fault("~(case ^z (else z z) (l x 1))".replace(" (else z z) (l x 1)", " (l x 1) (else z z)"), "unknown")
        self.fault("~(case 1 (l x ^z) (else z z))", "unknown")
        self.fault("~(match 1 (x x) (y ^x))", "unknown")
        self.fault("~(match ^x (x x))", "unknown")
        self.fault("(program (def x ^x) (main 1))", "unknown")
        self.fault("(program (def x ^y) (def y 1) (main 1))", "unknown")
        self.fault("(program (defrec (f (fn x ^g))) (def g 1) (main 1))", "unknown")
        self.fault("(program (module m (struct (def x 1))) (main ^x))", "unknown")
        self.fault("(program (module m (struct (def x 1) (def y x))) (main ^y))", "unknown")
        for text in ["~(fn x x)", "~(let x 1 x)", "~(rec ((f (fn x f)) (g (fn y (tuple f g)))) (app f g))",
                     "~(case (tag l 1) (l x x) (else z z))", "~(match 1 (x x) ((tuple a b) (tuple a b)))",
                     "(program (def x 1) (def y x) (defrec (f (fn z (app f y)))) (main (app f x)))",
                     "(program (def x 1) (module m (struct (def y x) (def z y))) (main (member m z)))"]:
            self.good(text)

    def test_makers(self):
        self.fault("~^(make c 1)", "unknown")
        self.fault("~(match 1 (^(make c x) 1))", "unknown")
        self.fault("(program (def x ^(make c 1)) (data d () (c int)) (main 1))", "unknown")
        self.good("(program (data d () (c int)) (def x (make c 1)) (main (match x ((make c y) y))))")

    def test_written(self):
        self.fault("~(is 1 ^t)", "unknown")
        self.fault("~(cell ^(of d) 1)", "unknown")
        self.fault("(program (data d (p) (c p)) (main (is 1 ^p)))", "unknown")
        self.fault("(program (data d (p) (c ^q)) (main 1))", "unknown")
        self.fault("(program (data d () (c ^(of e))) (data e () (f int)) (main 1))", "unknown")
        self.fault("(program (sig s (val x (a) a) (val y () ^a)) (main 1))", "unknown")
        self.fault("(program (sig s (val x () ^t) (hide t)) (main 1))", "unknown")
        self.fault("(program (sig s (hide t)) (sig u (val x () ^t)) (main 1))", "unknown")
        self.fault("(program (module m (struct (alias t ^t))) (main 1))", "unknown")
        self.fault("(program (module m (struct (def x (is 1 ^t)) (alias t int))) (main 1))", "unknown")
        self.fault("(program (module m (struct (alias t int))) (main (is 1 ^t)))", "unknown")
        self.fault("(program (sig s) (functor f (x s) ((alias t int) (def y 1)) ((val y () ^t))) (main 1))", "unknown")
        self.fault("(program (sig s) (functor f (x s) ((def y (is 1 ^t)) (alias t int)) ((hide t))) (main 1))", "unknown")
        for text in ["(program (data d (p) (c p) (e (of d p))) (main (is hole (of d int))))",
                     "(program (sig s (hide t) (val x () t) (val y (t a) (to t a))) (main 1))",
                     "(program (module m (struct (alias t int) (alias u t) (def x (is 1 u)))) (main (is 1 (from m u))))",
                     "(program (sig s (hide t)) (functor f (x s) ((alias u (from x t)) (def y hole)) ((hide u) (val y () (to u (from x t))))) (main 1))"]:
            self.good(text)

    def test_modules(self):
        struct = "(module m (struct (def x 1) (alias t int)))"
        self.fault("~^(member m x)", "unknown")
        self.fault("~(is 1 ^(from m t))", "unknown")
        self.fault(f"(program {struct} (main ^(member m y)))", "unknown")
        self.fault(f"(program {struct} (main ^(member m t)))", "unknown")
        self.fault(f"(program {struct} (main (is 1 ^(from m u))))", "unknown")
        self.fault(f"(program {struct} (main (is 1 ^(from m x))))", "unknown")
        self.fault(f"(program (def y ^(member m x)) {struct} (main 1))", "unknown")
        self.fault("(program (module m (struct (def x ^(member m x)))) (main 1))", "unknown")
        self.fault("(program ^(module m (struct) s) (main 1))", "unknown")
        self.fault("(program ^(module m (struct) s) (sig s) (main 1))", "unknown")
        self.fault(f"(program {struct} (module n ^(apply f m)) (main 1))", "unknown")
        self.fault("(program (sig s) (functor f (x s) () ()) (module n ^(apply f m)) (main 1))", "unknown")
        self.fault("(program (sig s) (functor f (x s) () ()) (module n ^(apply f n)) (main 1))", "unknown")
        self.fault("(program (sig s) (functor f (x s) () ()) (module n ^(apply f x)) (main 1))", "unknown")
        self.fault("(program ^(functor f (x s) () ()) (main 1))", "unknown")
        self.fault("(program (sig s (val y () int)) (functor f (x s) ((def z ^(member x w))) ()) (main 1))", "unknown")
        self.fault("(program (sig s (val y () int)) (functor f (x s) () ()) (main ^(member x y)))", "unknown")
        self.good(f"(program {struct} (module n (struct (def y (is (member m x) (from m t))))) (main 1))")

    def test_seals_show_nothing_else(self):
        text = "(program (sig s (hide t) (val x () t)) (module m (struct (alias t int) (alias u int) (def x 1) (def y 2)) s) (main %s))"
        self.good(text % "(is (member m x) (from m t))")
        self.fault(text % "^(member m y)", "unknown")
        self.fault(text % "(is 1 ^(from m u))", "unknown")
        text = "(program (sig s) (functor f (x s) ((alias t int) (alias u int) (def y 1) (def z 1)) ((hide t) (val y () t))) (module n (struct)) (module m (apply f n)) (main %s))"
        self.good(text % "(is (member m y) (from m t))")
        self.fault(text % "^(member m z)", "unknown")
        self.fault(text % "(is 1 ^(from m u))", "unknown")

    def test_what_is_unknown_holds_every_name(self):
        whole = "(tuple (member m x) (is 1 (from m t)))"
        self.fault(f"(program ^(module m (struct) s) (main {whole}))", "unknown")
        self.fault(f"(program (module m ^(apply f n)) (main {whole}))", "unknown")
        self.fault("(program ^(functor f (m s) ((def z (tuple (member m x) (is 1 (from m t))))) ()) (main 1))", "unknown")
        # A functor that is known shows its items, though the argument is not known.
        p = read_program("(program (sig s) (functor f (x s) ((def y 1)) ((val y () int))) (module m (apply f n)) (main (tuple (member m y) (member m z))))")
        self.assertEqual(names_table(p), ((True, (8, "unknown")),))
        self.assertEqual(binders(p), {10: ((True, 5),)})


class Twice(Tables):
    def test_labels(self):
        self.fault("~^(record (l 1) (m 2) (l 3))", "twice")
        self.fault("~^(case 1 (l x 1) (l y 2))", "twice")
        self.fault("~^(case 1 (l x 1) (l y 2) (else z 3))", "twice")
        self.fault("~(match 1 (^(record (l x) (l y)) 1))", "twice")
        self.fault("~(is 1 ^(record (l int) (l int)))", "twice")
        self.fault("~(is 1 ^(tags (l int) (l int)))", "twice")
        self.good("~(tuple (record (l 1) (m 2)) (record (l 1)) (case 1 (l x 1) (m x 2)))")

    def test_patterns(self):
        self.fault("~(match 1 ((tuple x ^x) 1))", "twice")
        self.fault("~(match 1 ((tuple x (record (l ^x) (m y))) 1))", "twice")
        p = read_program("(program (main (match 1 ((tuple x x x) 1))))")
        self.assertEqual(names_table(p), ((True, (6, "twice")),))
        self.good("~(match 1 ((tuple x y) 1) ((tuple y x) (match 2 (x 1))))")

    def test_letters_and_items(self):
        self.fault("(program ^(data d (p q p) (c int)) (main 1))", "twice")
        self.fault("(program (sig s ^(val x (a a) int)) (main 1))", "twice")
        self.fault("(program (sig s (hide t) ^(hide t)) (main 1))", "twice")
        self.fault("(program (sig s (val x () int) (hide t) ^(val x () bool)) (main 1))", "twice")
        self.fault("(program (sig s) (functor f (x s) ((alias t int)) ((hide t) ^(hide t))) (main 1))", "twice")
        self.good("(program (sig s (hide x) (val x (x) int) (val y (x) int)) (sig u (hide x)) (main 1))")

    def test_groups(self):
        self.fault("~^(rec ((f (fn x 1)) (f (fn x 2))) 1)", "twice")
        self.fault("(program ^(defrec (f (fn x 1)) (g hole) (f hole)) (main 1))", "twice")
        self.good("~(rec ((f (fn x 1)) (g (fn x 1))) (rec ((f (fn x 1))) (let f 1 f)))")

    def test_declarations(self):
        for first, second in [("(def x 1)", "^(def x 1)"), ("(def x 1)", "^(defrec (x hole))"),
                              ("(defrec (y hole) (x hole))", "^(def x 1)"), ("(defrec (x hole))", "^(defrec (y hole) (x hole))"),
                              ("(data d () (c int))", "^(data d () (e int))"), ("(data d () (c int))", "(data e () ^(c int))"),
                              ("(sig s)", "^(sig s)"), ("(module m (struct))", "^(module m (struct))"),
                              ("(sig s) (functor f (x s) () ())", "^(functor f (y s) () ())"),
                              ("(sig s) (functor f (x s) () ())", "^(functor g (x s) () ())"),
                              ("(sig s) (functor f (x s) () ())", "^(module x (struct))"),
                              ("(sig s) (module x (struct))", "^(functor f (x s) () ())")]:
            self.fault(f"(program {first} {second} (main 1))", "twice")
        self.fault("(program (data d () (c int) ^(c int)) (main 1))", "twice")
        for first, second in [("(def x 1)", "^(def x 1)"), ("(alias t int)", "^(alias t int)"),
                              ("(defrec (x hole))", "^(def x 1)")]:
            self.fault(f"(program (module m (struct {first} {second})) (main 1))", "twice")
            self.fault(f"(program (sig s) (functor f (x s) ({first} {second}) ()) (main 1))", "twice")
        self.good("(program (def x 1) (data x () (y int)) (sig x) (module x (struct (def x 1) (alias x int))) (functor x (y x) ((def x 1)) ()) (module z (struct (def x 2) (alias x int))) (main x))")

    def test_order_of_the_chosen_program(self):
        # The later one counts, whatever the numbers are.
        tree = ("program", 0, (("def", 9, "x", ("number", 3, 1)), ("def", 2, "x", ("number", 4, 1))), ("number", 1, 1))
        self.assertEqual(names_table(tree), ((True, (2, "twice")),))
        p = read_program("(program (when A ((def x 1)) ()) (def x 2) (when A () ((def x 3))) (main x))")
        self.assertEqual(names_table(p), ((A_OFF, (7, "twice")), (A_ON, (4, "twice"))))


class Counts(Tables):
    def test_counts(self):
        data = "(data d (p q) (c p))"
        for marked_type in ["^(of d)", "^(of d int)", "^(of d int int int)", "(of d int ^(of d int))"]:
            self.fault(f"(program {data} (main (is 1 {marked_type})))", "count")
        self.good(f"(program {data} (main (is 1 (of d int (of d int bool)))))")
        self.fault("(program (data d (p) (c int) (e ^(of d))) (main 1))", "count")
        p = read_program("(program (when A ((data d () (c int))) ((data d (p) (c p)))) (main (is 1 (of d int))))")
        self.assertEqual(names_table(p), ((A_ON, (10, "count")),))


class Functions(Tables):
    def test_shapes(self):
        for bad in ["1", "x", "(let y 1 (fn z z))", "(if true (fn x x) (fn x x))", "(tuple 1 2)"]:
            self.fault(f"~(fn x (rec ((f ^{bad})) 1))", "shape")
            self.fault(f"(program (def x 1) (defrec (f ^{bad})) (main 1))", "shape")
            self.fault(f"(program (def x 1) (defrec (f (mark 1 (mark 2 ^{bad})))) (main 1))", "shape")
        self.good("~(rec ((f (fn x x)) (g hole) (h (mark 1 (mark 2 hole))) (i (mark 3 (fn y y)))) 1)")

    def test_under_choices(self):
        p = read_program("(program (main (rec ((f (mark 1 (choose A (fn x x) (mark 2 (choose B 3 hole)))))) 1)))")
        self.assertEqual(names_table(p), ((("A", False, ("B", True, False)), (8, "shape")),))


class Missing(Tables):
    SIG = "(sig s (hide t) (val x () t))"

    def test_seals(self):
        for rows in ["", "(alias t int)", "(def x 1)", "(alias x int) (def t 1)"]:
            self.fault(f"(program {self.SIG} ^(module m (struct {rows}) s) (main 1))", "missing")
        self.good(f"(program {self.SIG} (module m (struct (def x 1) (def y 2) (alias t int)) s) (main 1))")
        self.good(f"(program {self.SIG} (module m (struct (defrec (y hole) (x hole)) (alias t int)) s) (main 1))")

    def test_applied(self):
        functor = "(functor f (y s) ((alias t int) (def z 1)) ((hide t) (val z () t)))"
        good = "(module n (struct (alias t int) (def x 1)))"
        self.good(f"(program {self.SIG} {functor} {good} (module m (apply f n)) (main (member m z)))")
        self.fault(f"(program {self.SIG} {functor} (module n (struct (def x 1))) (module m ^(apply f n)) (main 1))", "missing")
        self.fault(f"(program {self.SIG} {functor} {good} ^(module m (apply f n) s) (main 1))", "missing")
        self.fault(f"(program {self.SIG} {functor} {good} (module m (apply f n)) (module o ^(apply f m)) (main 1))", "missing")
        # A sealed module shows no more than its seal.
        self.fault(f"(program {self.SIG} {functor} (sig u (val x () int)) (module n (struct (alias t int) (def x 1)) u) (module m ^(apply f n)) (main 1))", "missing")

    def test_functors(self):
        for rows in ["", "(alias t int)", "(def z 1)"]:
            self.fault(f"(program {self.SIG} ^(functor f (y s) ({rows}) ((hide t) (val z () t))) (main 1))", "missing")
        # A parameter's names are none of the functor's.
        self.fault(f"(program {self.SIG} ^(functor f (y s) () ((val x () int))) (main 1))", "missing")

    def test_what_is_unknown_lacks_nothing(self):
        self.fault("(program (sig s (hide t)) (module m ^(apply f n) s) (main 1))", "unknown")
        p = read_program("(program (sig s (hide t)) (module m (apply f n) s) (main 1))")
        self.assertEqual(names_table(p), ((True, (4, "unknown")),))
        p = read_program("(program (functor f (y s) () ()) (module n (struct)) (module m (apply f n)) (main 1))")
        self.assertEqual(names_table(p), ((True, (1, "unknown")),))

    def test_conditions(self):
        p = read_program(f"(program {self.SIG} (module m (struct (alias t int) (when A ((def x 1)) ())) s) (main (member m x)))")
        self.assertEqual(names_table(p), ((A_OFF, (5, "missing")),))
        p = read_program("(program (sig s (when A ((val x () int)) ())) (module m (struct) s) (main (member m x)))")
        self.assertEqual(names_table(p), ((A_OFF, (7, "unknown")), (A_ON, (5, "missing"))))


    def test_applied_under_conditions(self):
        p = read_program("""(program (sig s (val x () int)) (sig u (hide t))
            (when A ((functor f (p s) () ())) ((functor f (q u) () ())))
            (when B ((module n (struct (def x 1)))) ((module n (struct (alias t int)))))
            (when C ((module m (apply f n))) ()) (main 0))""")
        (number,) = [n[1] for n in all_nodes(p) if n[0] == "apply"]
        there = ("A", ("B", False, ("C", True, False)), ("B", ("C", True, False), False))
        self.assertEqual(names_table(p), ((there, (number, "missing")),))
        p = read_program("""(program (when C ((sig s (val x () int))) ((sig s (hide t)))) (functor f (p s) () ())
            (module n (struct (def x 1))) (module m (apply f n)) (main 0))""")
        (number,) = [n[1] for n in all_nodes(p) if n[0] == "apply"]
        self.assertEqual(names_table(p), ((("C", False, True), (number, "missing")),))

    def test_what_an_apply_shows_where_something_is_unknown(self):
        p = read_program("""(program (sig s) (when A ((functor f (p s) ((def y 1)) ((val y () int)))) ())
            (when B ((module n (struct))) ()) (module m (apply f n)) (main (tuple (member m y) (member m z))))""")
        # With the numbers turned round, faults of main come before those of the apply.
        count = len(all_nodes(p))
        turned = renumbered_by(p, lambda number: count - number if number else 0)
        (apply,) = [n[1] for n in all_nodes(turned) if n[0] == "apply"]
        (member,) = [n[1] for n in all_nodes(turned) if n[0] == "member" and n[3] == "z"]
        self.assertLess(member, apply)
        self.assertEqual(names_table(turned), ((A_OFF, (apply, "unknown")), (A_ON, (member, "unknown"))))


def renumbered_by(thing, change):
    """The tree with other numbers."""
    if not isinstance(thing, tuple):
        return thing
    if len(thing) > 1 and isinstance(thing[0], str) and type(thing[1]) is int:
        return (thing[0], change(thing[1]), *[renumbered_by(part, change) for part in thing[2:]])
    return tuple(renumbered_by(part, change) for part in thing)


class Endless(Tables):
    def test_data(self):
        for rows in ["(c (of d))", "(c (tuple int (of d))) (e (record (l (of d))))", "(c (cell (of d)))",
                     "(c (tags (l (of d)) (m (cell (of d)))))"]:
            self.fault(f"(program ^(data d () {rows}) (main 1))", "endless")
        for rows in ["(c int)", "(c (of d)) (e int)", "(c (to (of d) (of d)))", "(c (tags))",
                     "(c (tags (l (of d)) (m int)))", "(c (record))", "(c (cell bool))", "(c (tuple int bool))"]:
            self.good(f"(program (data d () {rows}) (main 1))")
        self.good("(program (data d (p) (c p)) (main 1))")
        self.good("(program (module m (struct (alias t int))) (data d () (c (from m t))) (main 1))")

    def test_through_other_data(self):
        some = "(data some (p) (one p))"
        maybe = "(data maybe (p) (none int) (some p))"
        both = "(data both (p q) (pair (tuple p q)))"
        left = "(data left (p q) (left p))"
        chain = "(data chain (p) (end int) (more (tuple p (of chain p))))"
        endless = [(some, "(of some (of d))"), (both, "(of both int (of d))"), (left, "(of left (of d) int)"),
                   (some, "(of some (of some (of d)))"), (some + maybe, "(of some (tuple (of maybe int) (of d)))")]
        for other, content in endless:
            self.fault(f"(program {other} ^(data d () (c {content})) (main 1))", "endless")
        good = [(maybe, "(of maybe (of d))"), (left, "(of left int (of d))"), (chain, "(of chain (of d))"),
                (some + maybe, "(of some (of maybe (of d)))"), (some, "(of some (to (of d) int))")]
        for other, content in good:
            self.good(f"(program {other} (data d () (c {content})) (main 1))")
        self.good("(program (data list (a) (e int) (c (tuple a (of list a)))) (data r () (n (of list (of r)))) (main 0))")

    def test_faulty_counts_and_letters(self):
        # A letter without a type counts as filled; of a letter twice the last place counts.
        p = read_program("(program (data w (p) (e p)) (data d () (c (of w))) (main 1))")
        self.assertEqual(names_table(p), ((True, (6, "count")),))
        p = read_program("(program (data w (p p) (e p)) (data d () (c (of w (of d) int))) (data g () (h (of w int (of g)))) (main 1))")
        self.assertEqual(names_table(p)[0][1], (1, "twice"))
        faults = [names_fault_of(text) for text in [
            "(program (data w (p p) (e p)) (data d () (c (of w (of d) int))) (main 1))",
            "(program (data w (p p) (e p)) (data d () (c (of w int (of d)))) (main 1))"]]
        self.assertEqual(faults, [(1, "twice"), (1, "twice")])
        tree = ("program", 0, (("data", 7, "w", ("p", "p"), (("maker", 8, "e", ("named", 9, "p")),)),
                               ("data", 1, "d", (), (("maker", 2, "c", ("of", 3, "w", (("int", 4), ("of", 5, "d", ())))),))),
                ("hole", 6))
        self.assertEqual(names_table(tree), ((True, (1, "endless")),))
        swapped = ("program", 0, (tree[2][0], ("data", 1, "d", (), (
            ("maker", 2, "c", ("of", 3, "w", (("of", 5, "d", ()), ("int", 4)))),))), ("hole", 6))
        self.assertEqual(names_table(swapped), ((True, (7, "twice")),))
        # Where the name means nothing, it can be filled.
        self.fault("(program (data d () (c ^(of e (of d)))) (main 1))", "unknown")

    def test_conditions(self):
        p = read_program("(program (data d () (when A ((c int)) ()) (e (choose B (of d) (to (of d) int)))) (main 1))")
        self.assertEqual(names_table(p), ((("A", False, ("B", True, False)), (1, "endless")),))
        p = read_program("(program (data d () (when A ((c int)) ())) (main 1))")
        self.assertEqual(names_table(p), ((A_OFF, (1, "endless")),))
        p = read_program("(program (data w (p) (n (choose A p int))) (data d () (c (of w (of d)))) (main 1))")
        self.assertEqual(names_table(p), ((A_ON, (6, "endless")),))

    def test_long_chains_end_soon(self):
        rows = "(data d0 (p) (c0 (tuple p p p)))"
        for k in range(1, 28):
            of = f"(of d{k - 1} p)"
            rows += f"(data d{k} (p) (c{k} (tuple {of} {of} {of})))"
        self.good(f"(program {rows} (main 1))")


def names_fault_of(text):
    return value_at(names_table(read_program(text)), ())


class Conditions(Tables):
    def test_the_same_fault_under_choices(self):
        for text, number in [("(program (main (choose A x 1)))", 2), ("(program (main (match 1 (when A ((y x)) ()) (_ 1))))", 6),
                             ("(program (data d () (c int) (when A ((e t)) ())) (main 1))", 6),
                             ("(program (sig s (when A ((val x () t)) ())) (main 1))", 4),
                             ("(program (when A ((def y x)) ()) (main 1))", 3),
                             ("(program (module m (choose A (struct (def y x)) (struct))) (main 1))", 5),
                             ("(program (module m (struct (when A ((def y x)) ()))) (main 1))", 5),
                             ("(program (main (is 1 (choose A t int))))", 4),
                             ("(program (main (match 1 ((choose A (make c x) x) 1))))", 5),
                             ("(program (main (mark 1 (choose A (mark 2 x) 1))))", 4)]:
            self.assertEqual(names_table(read_program(text)), ((A_ON, (number, "unknown")),), text)

    def test_choices_inside_themselves(self):
        self.good("~(choose A (choose A 1 x) (choose A x 2))")

    def test_two_faults(self):
        p = read_program("(program (def y (choose A 1 z)) (main (tuple x y)))")
        self.assertEqual(names_table(p), ((A_OFF, (4, "unknown")), (A_ON, (6, "unknown"))))
        # The least number, not the first in order.
        tree = ("program", 0, (), ("tuple", 1, (("name", 5, "x"), ("name", 3, "y"))))
        self.assertEqual(names_table(tree), ((True, (3, "unknown")),))
        # At one node the first word.
        p = read_program("(program (sig u) (module m (struct)) (module m (struct) s) (main 1))")
        self.assertEqual(names_table(p), ((True, (4, "unknown")),))
        p = read_program("(program (sig s (hide t)) (module m (struct)) (module m (struct) s) (main 1))")
        self.assertEqual(names_table(p), ((True, (5, "twice")),))
        p = read_program("(program (data d (p) (c int)) (data e (q q) (f (of e))) (main 1))")
        self.assertEqual(names_table(p), ((True, (4, "twice")),))
        p = read_program("(program (data d (q q) (f (of d q q))) (main 1))")
        self.assertEqual(names_table(p), ((True, (1, "twice")),))

    def test_marks_are_looked_through(self):
        self.fault("~(mark 1 (let y 1 (mark 2 ^x)))", "unknown")
        self.good("~(let x (mark 1 1) (mark 2 x))")


class Binders(unittest.TestCase):
    def bound(self, text):
        return binders(read_program(text))

    def test_each_kind(self):
        self.assertEqual(self.bound("(program (main (fn x x)))"), {2: ((True, 1),)})
        self.assertEqual(self.bound("(program (main (let x 1 x)))"), {3: ((True, 1),)})
        self.assertEqual(self.bound("(program (main (rec ((f (fn x (app f x)))) f)))"),
                         {4: ((True, 1),), 5: ((True, 2),), 6: ((True, 1),)})
        self.assertEqual(self.bound("(program (main (case 1 (l x x) (m x x) (else z z))))"),
                         {3: ((True, 1),), 4: ((True, 1),), 5: ((True, 1),)})
        self.assertEqual(self.bound("(program (main (match 1 ((tuple x y) (tuple x y)))))"),
                         {8: ((True, 5),), 9: ((True, 6),)})
        self.assertEqual(self.bound("(program (def x 1) (defrec (f (fn y x))) (main (app f x)))"),
                         {5: ((True, 1),), 7: ((True, 3),), 8: ((True, 1),)})
        self.assertEqual(self.bound("(program (data d (p) (c p) (e (of d p))) (main (match (make c 1) ((make e x) x))))"),
                         {3: ((True, 1),), 5: ((True, 1),), 6: ((True, 1),), 8: ((True, 2),), 11: ((True, 4),),
                          13: ((True, 12),)})
        self.assertEqual(self.bound("(program (sig s (hide t) (val x (a) (to a t))) (main 1))"),
                         {5: ((True, 3),), 6: ((True, 2),)})
        self.assertEqual(self.bound("(program (sig s (hide t) (val x (t) t)) (main 1))"), {4: ((True, 3),)})

    def test_members(self):
        struct = "(module m (struct (def x 1) (defrec (f hole)) (alias t int)))"
        self.assertEqual(self.bound(f"(program {struct} (main (is (tuple (member m x) (member m f)) (from m t))))"),
                         {11: ((True, 3),), 12: ((True, 5),), 13: ((True, 7),)})
        sealed = "(sig s (hide t) (val x () t)) (module m (struct (alias t int) (def x 1)) s)"
        self.assertEqual(self.bound(f"(program {sealed} (main (is (member m x) (from m t))))"),
                         {4: ((True, 2),), 12: ((True, 3),), 13: ((True, 2),)})
        applied = "(sig s (val x () int)) (functor f (n s) ((alias t int) (def y (member n x))) ((hide t) (val y () t)))" \
                  "(module o (struct (def x 1))) (module m (apply f o))"
        self.assertEqual(self.bound(f"(program {applied} (main (is (member m y) (from m t))))"),
                         {8: ((True, 2),), 11: ((True, 9),), 19: ((True, 10),), 20: ((True, 9),)})

    def test_hiding(self):
        self.assertEqual(self.bound("(program (def x 1) (main (fn x (let x x x))))"), {5: ((True, 3),), 6: ((True, 4),)})
        self.assertEqual(self.bound("(program (def x 1) (def x x) (main x))"), {4: ((True, 1),), 5: ((True, 3),)})
        self.assertEqual(self.bound("(program (main (match 1 ((tuple x x) x))))"), {7: ((True, 6),)})

    def test_unlike_binders(self):
        p = "(program (def x 1) (when A ((def x 2)) ()) (main x))"
        self.assertEqual(self.bound(p), {6: ((A_OFF, 1), (A_ON, 4))})
        p = "(program (main (match 1 ((choose A (tuple x y) (tuple y x)) x))))"
        self.assertEqual(self.bound(p), {11: ((A_OFF, 10), (A_ON, 6))})
        p = "(program (module m (choose A (struct (def x 1)) (struct (def x 2)))) (main (choose B (member m x) 1)))"
        self.assertEqual(self.bound(p), {10: ((("A", False, ("B", True, False)), 7), (("A", ("B", True, False), False), 4))})

    def test_uses_without_a_binder(self):
        self.assertEqual(self.bound("(program (main (tuple x (make c 1) (member m x))))"), {})
        self.assertEqual(self.bound("(program (module m (struct) s) (main (is (member m x) (from m t))))"), {})
        self.assertEqual(self.bound("(program (when A ((def x 1)) ()) (main x))"), {4: ((A_ON, 2),)})
        self.assertEqual(self.bound("(program (main (choose A (choose A 1 (fn x x)) 2)))"), {})


class Random(unittest.TestCase):
    def compare(self, tree, switches):
        table, bound = names_table(tree), binders(tree)
        self.assertEqual(table_faults(table, switches), [])
        self.assertEqual(list(bound), sorted(bound))
        for one in bound.values():
            self.assertEqual(table_faults(one, switches), [])
            self.assertTrue(one)
        for setting in every_setting(switches):
            one = chosen(tree, setting)
            self.assertEqual(value_at(table, setting), names_fault(one))
            found = {k: value_at(bound[k], setting) for k in bound}
            self.assertEqual({k: v for k, v in found.items() if v is not None}, plain_binders(one))
            self.assertEqual(names_table(one), ((True, names_fault(one)),) if names_fault(one) else ())

    def test_programs(self):
        for seed in range(250):
            chance = random.Random(seed)
            switches = ("A", "B", "C")[:seed % 4]
            makes = Programs(chance, switches, wild=chance.choice([0, 0.02, 0.1]), choices=0.2)
            self.compare(makes.program(many=chance.randint(0, 8), depth=4), switches)

    def test_programs_without_sense(self):
        for seed in range(150):
            tree = Trees(random.Random(seed)).program(many=seed % 6, depth=4)
            self.compare(tree, ("A", "B", "C"))

    def test_data(self):
        for seed in range(400):
            chance = random.Random(seed)
            tree = BareData(chance, ("A", "B")).program()
            if seed % 2:
                numbers = chance.sample(range(1, 1000), 999)
                tree = renumbered_by(tree, lambda number: numbers[number] if number else 0)
            self.compare(tree, ("A", "B"))

    def test_bare_terms(self):
        for seed in range(300):
            self.compare(BareTerms(random.Random(seed), ("A", "B"), (1, 2)).program(), ("A", "B"))

    def test_no_argument_is_changed(self):
        before = copy.deepcopy(PLACES)
        first = (names_table(PLACES), binders(PLACES))
        self.assertEqual(PLACES, before)
        self.assertEqual((names_table(PLACES), binders(PLACES)), first)
        found = binders(PLACES)
        found.clear()
        self.assertEqual(binders(PLACES), first[1])


if __name__ == "__main__":
    unittest.main()
