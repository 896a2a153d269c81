"""Part 12: the unfolded program and papers, judged by a judge of the tests' own."""

import copy
import os
import random
import time
import unittest

from eacharm.checking import check
from eacharm.choosing import chosen, kept_only, marks_in, switches_in
from eacharm.conditions import holds
from eacharm.errors import ArmError, NotRefused, TooLarge
from eacharm.papers import paper_at, unfolded_size
from eacharm.reader import read_program
from eacharm.scoping import names_table
from eacharm.trees import all_nodes
from eacharm.unfolding import claims_of
from bareterms import BareTerms
from paperjudge import FALSE, Judge, Unfolded, unfolded_places
from programs import Programs
from settings import every_setting

MANY = int(os.environ.get("PROGRAMS", 300))
DATA = "(data list (a) (nil int) (cons (tuple a (of list a)))) (data two (a b) (two (tuple a (tuple b a))))"
SIG = "(sig s (hide t) (val x () t) (val f (a b) (to a (to b (tuple a t)))))"
BODY = "(alias t int) (def x 1) (def f (fn u (fn v (tuple u x))))"
FUNCTOR = f"(functor fu (p s) ((alias r (tuple (from p t) int)) (def y (tuple (member p x) 1)) (def k (fn z (app (app (member p f) z) 1)))) ((hide r) (val y () r) (val k (c) (to c (tuple c (from p t))))))"
MODULES = f"{SIG} (module m (struct {BODY})) (module q (struct {BODY}) s) {FUNCTOR} (module am (apply fu m)) (module aq (apply fu q))"


def program(text):
    """The program of a text, or with a text as its main."""
    return read_program(text if text.startswith("(program") else f"(program {DATA} (main {text}))")


def paper(text, setting=(), lot=None):
    """A paper of a text; it has been judged."""
    tree = program(text)
    lot = marks_in(tree) if lot is None else lot
    rows = paper_at(tree, setting, lot)
    Judge(kept_only(chosen(tree, setting), lot), rows)
    return rows


def given_at(text, number, chain=()):
    """The given claims of a place, in order."""
    return [claim for place, claim in claims_of(program(text)) if place == (number, chain)]


def doubling(many):
    """Definitions each of which uses the one before twice."""
    return "".join(f"(def x{k} (tuple x{k - 1} x{k - 1}))" for k in range(1, many + 1))


def filled(many):
    """The text of an expression of so many nodes."""
    if many < 3:
        return ("hole", "(tag l hole)")[many - 1]
    parts = min(4, many - 1)
    sizes = [(many - 1) // parts + (k < (many - 1) % parts) for k in range(parts)]
    return f"(tuple {' '.join(map(filled, sizes))})"


def at(number, chain=(), role=""):
    return ("letter", (chain, number, role))


class Unfolding(unittest.TestCase):
    """12.5 to 12.7: places and given claims, each form by itself."""

    def claims(self, text, number, *wanted, chain=()):
        self.assertEqual(given_at(f"(program {DATA} (main {text}))", number + 15, chain), list(wanted), text)

    def test_words(self):
        # Main has the number 16 behind the data.
        self.assertEqual(program("1")[3][1], 16)
        self.claims("1", 1, ("same", at(16), ("int",)))
        self.claims("true", 1, ("same", at(16), ("bool",)))
        self.claims("hole", 1)
        self.claims("(fn x x)", 1, ("same", at(16), ("arrow", at(16, role="in"), at(17))))
        self.claims("(fn x x)", 2, ("same", at(17), at(16, role="in")))
        self.claims("(app 1 2)", 1, ("same", at(17), ("arrow", at(18), at(16))))
        self.claims("(let x 1 2)", 1, ("same", at(16), at(18)))
        self.claims("(rec ((f (fn x x)) (g hole)) 2)", 1, ("same", at(16), at(20)))
        self.claims("(if 1 2 3)", 1, ("same", at(17), ("bool",)), ("same", at(18), at(16)), ("same", at(19), at(16)))
        for sign, word in (("+", "int"), ("-", "int"), ("<", "bool"), ("=", "bool")):
            self.claims(f"({sign} 1 2)", 1, ("same", at(17), ("int",)), ("same", at(18), ("int",)), ("same", at(16), (word,)))
        self.claims("(tuple 1 2 3)", 1, ("same", at(16), ("tuple", (at(17), at(18), at(19)))))
        self.claims("(record (m 1) (l 2))", 1, ("same", at(16), ("record", (("l", at(18)), ("m", at(17))), None)))
        self.claims("(record)", 1, ("same", at(16), ("record", (), None)))

    def test_rows(self):
        row = ((), 16, "row")
        self.claims("(get l 1)", 1, ("same", at(17), ("record", (("l", at(16)),), row)), ("lacks", row, "l"))
        self.claims("(extend l 1 2)", 1, ("same", at(18), ("record", (), row)),
                    ("same", at(16), ("record", (("l", at(17)),), row)), ("lacks", row, "l"))
        self.claims("(update l 1 2)", 1, ("same", at(18), ("record", (("l", at(16, role="old")),), row)),
                    ("same", at(16), ("record", (("l", at(17)),), row)), ("lacks", row, "l"))
        self.claims("(without l 1)", 1, ("same", at(17), ("record", (("l", at(16, role="old")),), row)),
                    ("same", at(16), ("record", (), row)), ("lacks", row, "l"))
        self.claims("(tag l 1)", 1, ("same", at(16), ("variant", (("l", at(17)),), row)), ("lacks", row, "l"))

    def test_cases(self):
        row = ((), 16, "row")
        fields = (("l", at(16, role="arm l")), ("m", at(16, role="arm m")))
        self.claims("(case hole (m x x) (l y y))", 1, ("same", at(17), ("variant", fields, None)),
                    ("same", at(18), at(16)), ("same", at(19), at(16)))
        self.claims("(case hole (m x x) (l y y))", 3, ("same", at(18), at(16, role="arm m")))
        self.claims("(case hole (m x x) (l y y))", 4, ("same", at(19), at(16, role="arm l")))
        text = "(case hole (m x x) (else z z))"
        self.claims(text, 1, ("same", at(17), ("variant", fields[1:], row)), ("lacks", row, "m"),
                    ("same", at(18), at(16)), ("same", at(19), at(16)))
        self.claims(text, 4, ("same", at(19), ("variant", (), row)))

    def test_matches_and_patterns(self):
        text = "(match hole ((tuple x _) x) ((record (m 1) (l true)) 2) ((record) 3))"
        self.claims(text, 1, ("same", at(17), at(19)), ("same", at(22), at(16)), ("same", at(17), at(24)),
                    ("same", at(27), at(16)), ("same", at(17), at(29)), ("same", at(30), at(16)))
        self.claims(text, 4, ("same", at(19), ("tuple", (at(20), at(21)))))
        self.claims(text, 5)
        self.claims(text, 6)
        self.claims(text, 7, ("same", at(22), at(20)))
        row = ((), 24, "row")
        self.claims(text, 9, ("same", at(24), ("record", (("l", at(26)), ("m", at(25))), row)), ("lacks", row, "m"), ("lacks", row, "l"))
        self.claims(text, 10, ("same", at(25), ("int",)))
        self.claims(text, 11, ("same", at(26), ("bool",)))
        self.claims(text, 14, ("same", at(29), ("record", (), ((), 29, "row"))))

    def test_makes(self):
        letters = (at(16, role="of a"), at(16, role="of b"))
        content = ("tuple", (letters[0], ("tuple", (letters[1], letters[0]))))
        self.claims("(make two 1)", 1, ("same", at(16), ("data", "two", letters)), ("same", at(17), content))
        own = at(19, role="of a")
        self.claims("(match hole ((make cons x) x))", 4, ("same", at(19), ("data", "list", (own,))),
                    ("same", at(20), ("tuple", (own, ("data", "list", (own,))))))

    def test_cells_and_is(self):
        self.claims("(cell (to int bool) 1)", 1, ("same", at(20), ("arrow", ("int",), ("bool",))),
                    ("same", at(16), ("cell", ("arrow", ("int",), ("bool",)))))
        self.claims("(read 1)", 1, ("same", at(17), ("cell", at(16))))
        self.claims("(write 1 2)", 1, ("same", at(17), ("cell", at(18))), ("same", at(16), ("record", (), None)))
        self.claims("(is 1 (tags (m int) (l bool)))", 1, *[
            ("same", at(k), ("variant", (("l", ("bool",)), ("m", ("int",))), None)) for k in (17, 16)])

    def places(self, text, *wanted):
        """Places of words that stand for themselves: (number, chain)."""
        self.assertEqual(sorted(unfolded_places(program(text))), sorted(wanted))
        self.assertEqual(unfolded_size(program(text), (), ()), len(wanted))

    def test_places_of_lets(self):
        self.places("(program (main (let f 1 (tuple f f))))", (1, ()), (2, ()), (3, ()), (4, ()), (5, ()), (2, (4,)), (2, (5,)))
        # 1 let f, 2 its side, 3 let g, 4 a use of f, 5 a use of g.
        text = "(program (main (let f 1 (let g f g))))"
        self.places(text, (1, ()), (2, ()), (3, ()), (4, ()), (5, ()), (2, (4,)), (4, (5,)), (2, (5, 4)))
        self.assertEqual(given_at(text, 4, (5,)), [("same", at(4, (5,)), at(2, (5, 4)))])
        self.assertEqual(given_at(text, 5), [("same", at(5), at(4, (5,)))])
        # A let inside a let's right side stands in each copy of it.
        text = "(program (main (let f (let g 1 g) f)))"
        self.places(text, *[(k, ()) for k in range(1, 6)], (3, (4,)), (2, (5,)), (3, (5,)), (4, (5,)), (3, (5, 4)))

    def test_held_names_in_copies(self):
        # 1 fn y, 2 let f, 3 fn x, 4 tuple, 5 x, 6 y, 7 a use of f.
        text = "(program (main (fn y (let f (fn x (tuple x y)) f))))"
        self.assertEqual(given_at(text, 5, (7,)), [("same", at(5, (7,)), at(3, (7,), "in"))])
        self.assertEqual(given_at(text, 6, (7,)), [("same", at(6, (7,)), at(1, (), "in"))])
        self.assertEqual(given_at(text, 5), [("same", at(5), at(3, (), "in"))])

    def test_places_of_groups(self):
        # 1 rec, 2 fn of f, 3 g in it, 4 fn of g, 5 f in it, 6 a use of f outside.
        text = "(program (main (rec ((f (fn x g)) (g (fn y f))) f)))"
        self.places(text, *[(k, ()) for k in range(1, 7)], *[(k, (6,)) for k in range(2, 6)])
        self.assertEqual(given_at(text, 3), [("same", at(3), at(4))])
        self.assertEqual(given_at(text, 3, (6,)), [("same", at(3, (6,)), at(4, (6,)))])
        self.assertEqual(given_at(text, 6), [("same", at(6), at(2, (6,)))])
        # 2 defrec f of 3, 4 f in it; 5 a use in the right side of g is outside of f's group.
        text = "(program (defrec (f (fn x f))) (defrec (g (fn y (app f g)))) (main g))"
        self.places(text, *[(k, ()) for k in (2, 3, 5, 6, 7, 8, 9)], (2, (7,)), (3, (7,)), *[(k, (9,)) for k in (5, 6, 7, 8)], (2, (9, 7)), (3, (9, 7)))
        self.assertEqual(given_at(text, 8, (9,)), [("same", at(8, (9,)), at(5, (9,)))])
        # A let in a group's right side means the group's copy around it.
        text = "(program (main (rec ((f (fn x (let g f g)))) f)))"
        self.assertEqual(given_at(text, 4, (5,)), [("same", at(4, (5,)), at(2))])
        self.assertEqual(given_at(text, 4, (6, 5)), [("same", at(4, (6, 5)), at(2, (6,)))])

    def test_definitions_of_structs(self):
        # 1 module, 2 struct, 3 def x, 4 its side, 5 def y, 6 a use of x, 7 a member.
        text = "(program (module m (struct (def x 1) (def y x))) (main (member m y)))"
        self.places(text, (4, ()), (6, ()), (7, ()), (4, (6,)), (6, (7,)), (4, (7, 6)))
        self.assertEqual(given_at(text, 7), [("same", at(7), at(6, (7,)))])

    def test_seals(self):
        # 1 sig, 2 val f, 6 module, 8 defrec of f and g, 9 fn, 11 fn, 13 member.
        text = "(program (sig s (val f (a) (to a a))) (module m (struct (defrec (f (fn x x)) (g (fn y (app f y))))) s) (main (member m f)))"
        tree = read_program(text)
        self.assertEqual([n[1] for n in all_nodes(tree) if n[0] in ("val", "module", "fn", "member")], [2, 6, 9, 11, 15])
        chain = ((6, 2),)
        self.assertEqual(given_at(text, 2, chain), [("same", ("arrow", ("stone", "2.a"), ("stone", "2.a")), at(9, chain))])
        self.assertEqual(given_at(text, 15), [("same", at(15), ("arrow", at(15, (), "of a"), at(15, (), "of a")))])
        self.assertEqual(unfolded_size(tree, (), ()), 6 * 2 + 1)
        self.assertEqual({c for _, c in unfolded_places(tree)}, {(), chain})

    def test_modules(self):
        tree = program(f"(program {MODULES} (main (tuple (member m f) (member q f) (member am k) (member aq y))))")
        number = {n[2]: n[1] for n in all_nodes(tree) if n[0] in ("module", "functor")}
        vals = {n[2]: n[1] for n in all_nodes(tree) if n[0] == "val"}
        roots = {(n[2], k): n[3][1] for k, n in enumerate(n for n in all_nodes(tree) if n[0] == "def")}
        applies = {n[3]: n[1] for n in all_nodes(tree) if n[0] == "apply"}
        members = {n[2]: n[1] for n in tree[3][2]}
        claims = {}
        for place, claim in claims_of(tree):
            claims.setdefault(place, []).append(claim)
        # The seal of q: its hidden name is the struct's alias.
        chain = ((number["q"], vals["x"]),)
        self.assertEqual(claims[(vals["x"], chain)], [("same", ("int",), at(roots[("x", 2)], chain))])
        # The functor's result.
        chain = ((number["fu"], vals["y"]),)
        pair = ("tuple", (("hidden", "p", "t"), ("int",)))
        self.assertEqual(claims[(vals["y"], chain)], [("same", pair, at(roots[("y", 4)], chain))])
        # The arguments: a definition of m is copied, a val of q is used.
        chain = ((applies["m"], vals["f"]),)
        a, b = (("stone", f"{vals['f']}.{x}") for x in "ab")
        wanted = ("arrow", a, ("arrow", b, ("tuple", (a, ("int",)))))
        self.assertEqual(claims[(vals["f"], chain)], [("same", wanted, at(roots[("f", 1)], chain))])
        chain = ((applies["q"], vals["f"]),)
        wanted = ("arrow", a, ("arrow", b, ("tuple", (a, ("hidden", "q", "t")))))
        told = [at(vals["f"], chain, f"of {x}") for x in "ab"]
        told = ("arrow", told[0], ("arrow", told[1], ("tuple", (told[0], ("hidden", "q", "t")))))
        self.assertEqual(claims[(vals["f"], chain)], [("same", wanted, told)])
        # Members: of a struct, a sealed and applied modules.
        k = members["m"]
        self.assertEqual(claims[(k, ())], [("same", at(k), at(roots[("f", 1)], (k,)))])
        k = members["am"]
        own = at(k, (), "of c")
        self.assertEqual(claims[(k, ())], [("same", at(k), ("arrow", own, ("tuple", (own, ("int",)))))])
        k = members["aq"]
        self.assertEqual(claims[(k, ())], [("same", at(k), ("hidden", "aq", "r"))])

    def test_an_applied_functor_with_a_seal(self):
        text = f"(program {MODULES} (sig w (val k (d) (to d (tuple d int)))) (module sm (apply fu m) w) (main (member sm k)))"
        tree = program(text)
        module = [n[1] for n in all_nodes(tree) if n[0] == "module"][-1]
        val = [n[1] for n in all_nodes(tree) if n[0] == "val"][-1]
        chain = ((module, val),)
        stone, own = ("stone", f"{val}.d"), at(val, chain, "of c")
        self.assertEqual(given_at(text, val, chain), [
            ("same", ("arrow", stone, ("tuple", (stone, ("int",)))), ("arrow", own, ("tuple", (own, ("int",)))))])
        main = tree[3][1]
        self.assertEqual(given_at(text, main)[0][2], ("arrow", at(main, (), "of d"), ("tuple", (at(main, (), "of d"), ("int",)))))

    def test_random(self):
        """All given claims and all places, as the judge reads them."""
        deep = 0
        for seed in range(MANY):
            chance = random.Random(seed)
            tree = Programs(chance, ("A", "B", "C")[:seed % 4], (5, 2)[:seed % 3], chance.choice([0, 0.02]), 0.15,
                            seed % 3 > 0).program(chance.randint(2, 9), chance.randint(2, 5))
            for setting in every_setting(switches_in(tree)):
                one = kept_only(chosen(tree, setting), marks_in(tree)[:seed % 2])
                if not names_table(chosen(tree, setting)):
                    unfolded = Unfolded(one)
                    wanted = [(place, claim) for place, claims in unfolded.claims.items() for claim in claims]
                    self.assertEqual(sorted(map(repr, claims_of(one))), sorted(map(repr, wanted)))
                    self.assertEqual(unfolded_size(tree, setting, marks_in(tree)[:seed % 2]), len(unfolded.places))
                    deep += any(len(chain) > 2 for _, chain in unfolded.places)
        self.assertGreater(deep, MANY // 3)


class Clashes(unittest.TestCase):
    """12.8: each kind of clash, by its last row, with what must stand in the paper."""

    def last(self, text, rule, *words):
        rows = paper(text)
        self.assertEqual(rows[-1][0], rule, text)
        self.assertEqual(rows[-1][2], FALSE)
        rules = {row[0] for row in rows}
        self.assertTrue(set(words) <= rules, (text, rules))
        return rows

    def test_heads(self):
        for text in ("(+ 1 true)", "(app 1 2)", "(if 1 2 3)", "(if true 1 true)", "(get l 1)", "(read 1)",
                     "(tuple 1 (match 1 (true 2)))", "(is 1 bool)", "(cell bool 1)", "(write (cell int 1) true)",
                     "(make nil true)", "(case (record) (l x 1))", "(get l (tag l 1))", "(match 1 (1 2) (2 true))",
                     "(if true (tuple 1 2) (tuple 1 2 3))", "(if true (make nil 1) (make two (tuple 1 (tuple 2 3))))",
                     "(fn x (+ x (app x 1)))", "(match (tuple 1 2) ((tuple x y z) 1))"):
            self.last(text, "heads")
        self.last("(+ (app (fn x x) true) 1)", "heads", "part", "chained", "turned", "given")
        self.last("(fn x (tuple (read x) (get l x)))", "heads")

    def test_names(self):
        # Names, strings and counts.
        two = f"{SIG} (module m (struct {BODY}) s) (module n (struct {BODY}) s)"
        self.last(f"(program {two} (main (if true (member m x) (member n x))))", "heads")
        self.last(f"(program {two} (main (is (member m x) int)))", "heads")
        self.last("(program (sig s (val f (a b) (to a b))) (module m (struct (def f (fn x x))) s) (main 1))", "heads")
        self.last("(program (sig s (val f (a) (to a int))) (module m (struct (def f (fn x x))) s) (main 1))", "heads")
        self.last("(program (sig s (hide t) (hide u) (val f () (to t u))) (module m (struct (alias t int) (alias u bool) (def f (fn x x))) s) (main 1))", "heads")

    def test_missing(self):
        self.last("(get n (record (l 1)))", "missing")
        self.last("(update l 1 (record))", "missing")
        self.last("(without l (record (m 1)))", "missing")
        self.last("(if true (record (l 1)) (record))", "missing")
        self.last("(if true (record) (record (l 1)))", "missing")
        self.last("(case (tag n 1) (l x 1))", "missing")
        self.last("(match (record (l 1)) ((record (m x)) x))", "missing")
        # The label is told by the tail alone.
        self.last("(fn r (tuple (get l r) (if true (get m r) 1) (if true r (record (l 1)))))", "missing")
        self.last("(fn r (if true (extend m 1 (extend l 1 r)) (record (l 1))))", "missing", "given")
        self.last("(fn r (fn s (tuple (if true (extend l 1 r) (extend m 2 s)) (is r (record)))))", "missing", "moved")

    def test_lacked(self):
        self.last("(extend l 1 (record (l 2)))", "lacked", "moved")
        self.last("(fn r (extend l (get l r) r))", "lacked", "moved")
        self.last("(fn r (without l (without l r)))", "lacked", "moved")
        self.last("(fn r (extend l 1 (extend l 2 r)))", "lacked", "moved")
        self.last("(fn r (if true (extend l 1 r) r))", "lacked", "moved")
        self.last("(fn r (fn s (tuple (if true r s) (extend l 1 r) (get l s))))", "lacked", "moved")
        self.last("(case hole (l x 1) (else z (case z (l y 2) (else w 3))))", "lacked")

    def test_loops(self):
        self.last("(fn x (app x x))", "loop")
        self.last("(rec ((f (fn x f))) 1)", "loop")
        self.last("(fn x (if true x (tuple x 1)))", "loop")
        self.last("(fn c (write c c))", "loop")
        self.last("(fn x (match x ((make cons (tuple y z)) (if true y (tuple x 1)))))", "loop")
        self.last("(fn x (fn y (tuple (if true x (tuple y 1)) (if true y (tuple x 1)))))", "loop")
        self.last("(fn r (if true r (record (l r))))", "loop")

    def test_loops_through_rows(self):
        # The field of the tail contains a record with the tail.
        rows = self.last("(fn r (if true (get m r) (extend l 1 r)))", "loop")
        self.assertTrue(any(hops for _, hops in rows[-1][1]))
        rows = self.last("(fn r (fn s (tuple (if true (get m r) (extend l 1 s)) (if true (get n s) (extend l 1 r)))))", "loop")
        self.assertGreaterEqual(len([1 for _, hops in rows[-1][1] if hops]), 2)
        rows = self.last("(fn v (fn w (if true (case v (l x x) (else z w)) (case v (m x (tag n v)) (else z w)))))", "loop")

    def test_fields(self):
        self.last("(+ 1 (get l (record (l true) (m 2))))", "heads", "field")
        self.last("(fn r (+ (get l r) (if (get l r) 1 2)))", "heads", "field")
        self.last("(fn r (fn s (tuple (get l r) (if true r s) (+ (get l r) 1) (if (get l s) 1 2))))", "heads", "field")
        self.last("(app (fn r (+ (get l (extend m 1 r)) 1)) (record (l true)))", "heads", "field", "moved")

    def test_definitions(self):
        self.last("(let f (fn x x) (tuple (app f 1) (+ (app f true) 1)))", "heads")
        self.last("(fn y (let f (fn x (if true x y)) (tuple (app f 1) (app f true))))", "heads")
        self.last("(let f (fn x (+ x 1)) (let g (fn x (app f x)) (app g true)))", "heads")
        self.last("(rec ((f (fn x (app g x))) (g (fn y (+ y 1)))) (app f true))", "heads")
        self.last("(rec ((f (fn x (tuple (app f 1) (app f true))))) 1)", "heads")
        self.last("(program (def f (fn x (get l x))) (defrec (g (fn y (app f y)))) (main (app g (record))))", "missing")
        self.last("(program (module m (struct (def f (fn x (+ x 1))))) (main (app (member m f) true)))", "heads")
        self.last("(program (module m (struct (def f (+ 1 true)))) (main 1))", "heads")
        self.last(f"(program {SIG} (functor fu (p s) ((def y (+ (member p x) 1))) ()) (main 1))", "heads")
        self.last(f"(program {DATA} (main (match (make cons (tuple 1 (make nil 0))) ((make cons (tuple x y)) (if x 1 2)) (_ 3))))", "heads")

    def test_modules(self):
        self.last(f"(program {MODULES} (main (+ (member q x) 1)))", "heads")
        self.last(f"(program {MODULES} (main (if true (member am y) (member aq y))))", "heads")
        self.last(f"(program {MODULES} (main (is (member am y) (tuple int int))))", "heads")
        self.last(f"(program {MODULES} (main (is (app (member aq k) true) (tuple bool (from m t)))))", "heads")
        self.last(f"(program {MODULES} (module z (struct (alias t int) (def x true) (def f hole))) (module bad (apply fu z)) (main 1))", "heads")
        self.last(f"(program {MODULES} (module z (struct (alias t int) (def x 1) (def f hole)) s) (main (if true (member z x) (member q x))))", "heads")
        self.last(f"(program {MODULES} (sig w (val k (d) (to d (tuple d bool)))) (module sm (apply fu m) w) (main 1))", "heads")
        self.last(f"(program {MODULES} (sig w (hide r) (val y () r) (val k () (to r (tuple r int)))) (module sm (apply fu m) w) (main (+ (member sm y) 1)))", "heads")
        self.last(f"(program {SIG} (functor fu (p s) ((def y (member p x))) ((val y () int))) (main 1))", "heads")
        # An alias of a struct is what it stands for.
        with self.assertRaises(NotRefused):
            paper(f"(program {MODULES} (main (+ (member m x) (is 1 (from m t)))))")

    def test_rules_of_the_judge(self):
        """A paper that is spoilt anywhere is not taken."""
        for text in ("(fn r (+ (get l r) (if (get l r) 1 2)))", "(fn r (extend l (get l r) r))", "(fn r (if true (get m r) (extend l 1 r)))",
                     "(fn r (fn s (tuple (if true (extend l 1 r) (extend m 2 s)) (is r (record)))))"):
            rows, tree = paper(text), program(text)
            for k, (rule, parts, claim) in enumerate(rows):
                other = rows[k - 1][2] if k else ("same", ("int",), ("bool",))
                for row in ((rule, parts, other), ("self", (), claim), ("turned", parts[:1], claim)):
                    if row != rows[k]:
                        with self.assertRaises((AssertionError, KeyError, TypeError, ValueError, IndexError)):
                            Judge(tree, (*rows[:k], row, *rows[k + 1:]))
            with self.assertRaises(AssertionError):
                Judge(tree, rows[:-1])
            with self.assertRaises(AssertionError):
                Judge(tree, (*rows, rows[-1]))


class Asking(unittest.TestCase):
    """12.9."""

    G = "(program (main (let g (fn x (if (mark 1 x) (mark 2 (+ x 1)) 0)) 5)))"

    def refused(self, lot, *args, error=NotRefused):
        with self.assertRaises(error) as caught:
            paper_at(*args)
        self.assertIsInstance(caught.exception, ArmError)
        self.assertEqual(getattr(caught.exception, "lot", None), lot)
        return caught.exception

    def test_lots(self):
        p = read_program(self.G)
        for lot in ([1, 2], (2, 1), [2, 1, 1, 2], [1, 2, 7], [9, 2, 0, 1]):
            for setting in ((), ["A", "m1"]):
                rows = paper_at(p, setting, lot)
                self.assertEqual(rows, paper_at(p, (), (1, 2)))
                Judge(kept_only(p, (1, 2)), rows)
        self.refused((1,), p, (), [1])
        self.refused((2,), p, ["A"], (2, 2))
        self.refused((), p, (), [])
        self.refused((1, 3, 8), p, (), [8, 3, 1, 3])

    def test_sizes_of_lots(self):
        p = read_program(self.G)
        self.assertEqual(unfolded_size(p, (), [1, 2]), 9)
        self.assertEqual(unfolded_size(p, ["Z"], [2, 2, 1, 5]), 9)
        self.assertEqual(unfolded_size(p, (), [1]), 7)
        self.assertEqual(unfolded_size(p, (), []), 7)

    def test_names(self):
        # Names are asked for with all marks, and before the size and the typing.
        p = read_program("(program (main (choose A (tuple (mark 1 y) (+ 1 true)) (+ 1 true))))")
        self.refused((), p, ["A"], [])
        self.refused((1,), p, ["A"], [1])
        self.assertEqual(paper_at(p, (), [])[-1][0], "heads")
        p = read_program(f"(program (def x0 1) {doubling(25)} (main (choose A (tuple x25 y) x25)))")
        self.refused((), p, ["A"], [])
        self.refused(None, p, (), [], error=TooLarge)

    def test_large_comes_before_typed(self):
        p = read_program(f"(program (def x0 1) {doubling(28)} (main x28))")
        copied = [1]
        for _ in range(28):
            copied.append(3 + 2 * copied[-1])
        size = sum(copied) + 1 + copied[-1]
        self.assertEqual(unfolded_size(p, (), ()), size)
        self.assertGreater(size, 10 ** 9)
        error = self.refused(None, p, (), (), error=TooLarge)
        self.assertEqual(error.size, size)

    def test_sizes_of_many_figures(self):
        rows, number = [("def", 1, "x0", ("number", 2, 1))], 3
        for k in range(1, 100):
            name = f"x{k - 1}"
            rows.append(("def", number, f"x{k}", ("tuple", number + 1, (("name", number + 2, name), ("name", number + 3, name)))))
            number += 4
        copied = 1
        for _ in range(99):
            copied = 3 + 2 * copied
        p = ("program", 0, tuple(rows), ("name", number, "x99"))
        self.assertEqual(unfolded_size(p, (), ()), 4 * (2 ** 100 - 1) - 3 * 100 + 1 + copied)
        self.refused(None, p, (), (), error=TooLarge)

    def test_sizes_around_the_bound(self):
        rows = f"(def x0 1) {doubling(7)}"
        for bad in ("(+ 1 true)", "(+ 1 2)"):
            base = unfolded_size(read_program(f"(program {rows} (main (tuple {bad} x7 x6)))"), (), ())
            for size in (1998, 1999, 2000):
                p = read_program(f"(program {rows} (main (tuple {bad} x7 x6 {filled(size - base)})))")
                self.assertEqual(unfolded_size(p, (), ()), size)
                if bad == "(+ 1 2)":
                    self.refused((), p, (), ())
                else:
                    Judge(p, paper_at(p, (), ()))
            for size in (2001, 2002):
                p = read_program(f"(program {rows} (main (tuple {bad} x7 x6 {filled(size - base)})))")
                self.assertEqual(self.refused(None, p, (), (), error=TooLarge).size, size)

    def test_no_argument_is_changed(self):
        p = read_program(self.G)
        before, lot, setting = copy.deepcopy(p), [2, 1, 2], ["B", "A"]
        first = paper_at(p, setting, lot)
        unfolded_size(p, setting, lot)
        self.assertEqual((p, lot, setting), (before, [2, 1, 2], ["B", "A"]))
        self.assertEqual(first, paper_at(p, setting, lot))


class Random(unittest.TestCase):
    """A paper is told exactly if there is no typing, and is right."""

    def compare(self, tree, rules):
        c = check(tree)
        for setting in every_setting(c.switches):
            for kept in every_setting(c.marks):
                typed = holds(c.typable, [*setting, *[f"m{k}" for k in kept]])
                if typed or names_table(chosen(tree, setting)):
                    with self.assertRaises(NotRefused) as caught:
                        paper_at(tree, setting, kept[::-1])
                    self.assertEqual(caught.exception.lot, kept)
                else:
                    rows = paper_at(tree, setting, kept)
                    Judge(kept_only(chosen(tree, setting), kept), rows)
                    rules.update(row[0] for row in rows)

    def test_programs(self):
        rules = set()
        for seed in range(MANY // 2):
            chance = random.Random(seed)
            self.compare(Programs(chance, ("A", "B", "C")[:seed % 4], chance.choice([(), (1, 2), (5, 2, 3)]), chance.choice([0.02, 0.06]),
                                  chance.choice([0.1, 0.2]), seed % 2).program(chance.randint(0, 6), chance.randint(2, 5)), rules)
        self.assertTrue({"given", "turned", "chained", "part", "heads"} <= rules)

    def test_bare_terms(self):
        rules = set()
        for seed in range(3 * MANY):
            self.compare(BareTerms(random.Random(seed), ((), ("A",), ("A", "B"))[seed % 3], (1, 2)[:seed % 4]).program(), rules)
        self.assertEqual(rules, {"given", "turned", "chained", "part", "field", "moved", "heads", "missing", "lacked", "loop"})


class Large(unittest.TestCase):
    def judged_soon(self, text):
        p = read_program(text)
        start = time.time()
        size = unfolded_size(p, (), ())
        rows = paper_at(p, (), ())
        self.assertLess(time.time() - start, 3)
        Judge(p, rows)
        return size

    def test_papers_of_large_programs(self):
        sizes = []
        rows = "(def x0 (fn y y))" + "".join(f"(def x{k} (fn y (app x{k - 1} y)))" for k in range(1, 29))
        sizes.append(self.judged_soon(f"(program {rows} (main (+ (app x28 true) 1)))"))
        rows = "(def x0 (fn y y))" + "".join(f"(def x{k} (fn y (app x{k - 1} (app x{k - 1} y))))" for k in range(1, 7))
        sizes.append(self.judged_soon(f"(program {rows} (main (+ (app x6 true) 1)))"))
        rows = "(def x0 (fn r (extend l 1 r)))" + "".join(f"(def x{k} (fn y (app x{k - 1} (without l (app x{k - 1} y)))))" for k in range(1, 6))
        sizes.append(self.judged_soon(f"(program {rows} (main (app x5 (record (l 1)))))"))
        text = "(record (m 1))"
        for _ in range(25):
            text = f"(if true (update l 1 r) {text})"
        sizes.append(self.judged_soon(f"(program (def g (fn r {text})) (main (tuple (tuple g g g g) (tuple g g g g) (tuple g g g g))))"))
        text = "two"
        for _ in range(12):
            text = f"(app {text} two)"
        sizes.append(self.judged_soon(f"(program (def two (fn f (fn x (app f (app f x))))) (main (app (app (app {text} (fn x (+ x 1))) true) 1)))"))
        self.assertGreater(max(sizes), 1700)

    def test_long_chains_and_deep_trees(self):
        rows = [("def", 1, "x0", ("truth", 2, True))]
        rows += [("def", 2 * k + 1, f"x{k}", ("name", 2 * k + 2, f"x{k - 1}")) for k in range(1, 59)]
        p = ("program", 0, tuple(rows), ("op", 500, "+", ("name", 501, "x58"), ("number", 502, 1)))
        self.assertEqual(unfolded_size(p, (), ()), 59 * 60 // 2 + 3 + 59)
        rows = paper_at(p, (), ())
        Judge(p, rows)
        self.assertEqual(max(len(parts[1]) for rule, parts, _ in rows if rule == "given"), 59)
        node = ("op", 1, "+", ("number", 2, 1), ("truth", 3, True))
        for k in range(57):
            number = 3 * k + 4
            node = [("fn", number, "x", node), ("let", number, "x", ("hole", number + 1), node),
                    ("match", number, ("hole", number + 2), (("arm", 1000 + k, ("any", number + 1), node),))][k % 3]
        p = ("program", 0, (), node)
        Judge(p, paper_at(p, (), ()))
        term = ("int", 900)
        for k in range(28):
            term = ("tuple", 901 + 2 * k, (term, ("bool", 902 + 2 * k)))
        p = ("program", 0, (), ("app", 1, ("is", 2, ("hole", 3), term), ("number", 4, 1)))
        self.assertEqual(paper_at(p, (), ())[-1][0], "heads")


if __name__ == "__main__":
    unittest.main()
