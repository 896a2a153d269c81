"""Part 11: typings, read by the rules alone."""

import copy
import os
import random
import time
import unittest

from eacharm.checking import check
from eacharm.choosing import chosen, kept_only
from eacharm.conditions import holds
from eacharm.errors import ArmError, NotTyped
from eacharm.reader import read_program
from eacharm.tables import value_at
from eacharm.terms import scheme_of
from eacharm.typings import Typing, typing_at
from bareterms import BareTerms
from plaintypes import main_scheme
from programs import Programs
from settings import every_setting
from typingrules import typing_faults

MANY = int(os.environ.get("PROGRAMS", 300))
DATA = "(data list (a) (nil int) (cons (tuple a (of list a))))"


def typed(text, setting=(), kept=None):
    """The typing of a program, or with a text as its main."""
    text = text if text.startswith("(program") else f"(program {DATA} (main {text}))"
    return typing_at(check(read_program(text)), setting, kept)


class Examples(unittest.TestCase):
    def test_example(self):
        p = read_program("(program (def f (fn x x)) (main (app f (mark 1 3))))")
        t = typing_at(check(p), ())
        self.assertIsInstance(t, Typing)
        self.assertEqual([t.tree[3], t.told[4], t.told[5], len(t.generals[(1, "f")]), t.uses[5][0][1]], [
            ("app", 4, ("name", 5, "f"), ("number", 7, 3)), ("int",), ("arrow", ("int",), ("int",)), 1, ("int",)])


class Asking(unittest.TestCase):
    """11.1 and 11.2."""

    P = "(program (main (choose B (tuple (mark 2 1) (mark 1 true)) (choose A (+ 1 (mark 3 true)) x))))"

    def test_trees(self):
        p = read_program(self.P)
        c = check(p)
        for kept in ([], [1], [2, 1], [1, 1, 2, 2], (1, 2, 3), [3, 2, 1, 7, 9]):
            t = typing_at(c, ["B", "A", "B", "Z", "m1"], kept)
            self.assertEqual(t.tree, kept_only(chosen(p, ["A", "B"]), kept))
        self.assertEqual(typing_at(c, ("B",)).tree, kept_only(chosen(p, ["B"]), [1, 2, 3]))
        self.assertEqual(typing_at(c, ("B",), None).tree, typing_at(c, ("B",), [1, 2, 3]).tree)
        self.assertEqual(typing_at(c, ("B",), kept=[1]).told[2][1][1], ("bool",))
        self.assertEqual(typing_at(c, ("B",), kept=[]).told[2][1][1][0], "letter")

    def refused(self, setting, kept, told):
        with self.assertRaises(NotTyped) as caught:
            typing_at(check(read_program(self.P)), setting, kept)
        self.assertEqual((caught.exception.setting, caught.exception.kept), told)
        self.assertIsInstance(caught.exception, ArmError)

    def test_refused(self):
        # Names are at fault without A, whatever is kept; types are with A where the mark 3 is kept.
        self.refused([], None, ((), (1, 2, 3)))
        self.refused((), (), ((), ()))
        self.refused(["A"], None, (("A",), (1, 2, 3)))
        self.refused(["A", "A", "Q", "m2"], [3, 1, 3, 8], (("A",), (1, 3)))
        self.refused(["A"], [3], (("A",), (3,)))
        self.assertEqual(typing_at(check(read_program(self.P)), ["A"], [1, 2]).told[8], ("int",))

    def test_matches_need_not_be_whole(self):
        self.assertEqual(typed("(program (main (match 1 (1 true))))").told, {
            1: ("bool",), 2: ("int",), 4: ("int",), 5: ("bool",)})
        tree = ("program", 0, (), ("match", 1, ("number", 2, 1), ()))
        t = typing_at(check(tree), ())
        self.assertEqual((t.told[2], t.told[1][0]), (("int",), "letter"))


class Told(unittest.TestCase):
    """11.3 to 11.7: each form with the keys that must be there and no other, by the rules."""

    TEXTS = [
        "1", "true", "hole", "(fn x x)", "(app (fn x x) 1)", "(let f (fn x x) (tuple (app f 1) (app f true)))",
        "(fn y (let f (fn x (tuple x y)) (tuple (app f 1) (app f true))))", "(rec ((f (fn x (app g x))) (g (fn y (app f y)))) (tuple f g f))",
        "(fn z (rec ((f (fn x z))) (app f f)))", "(if true 1 2)", "(+ 1 2)", "(< 1 2)", "(tuple 1 (tuple hole hole))",
        "(record (m 1) (l true))", "(fn r (get l r))", "(fn r (extend l 1 r))", "(fn r (update l 1 r))", "(fn r (without l r))",
        "(fn r (fn s (if true (extend l 1 r) (extend m 2 s))))", "(tag l 1)", "(fn v (case v (l x x) (m y 1)))",
        "(fn v (case v (l x 1) (else z (case z (m y 2) (else w 3)))))", "(fn v (case v (l x (tag m x)) (else z z)))",
        "(make cons (tuple 1 (make nil 0)))", "(fn x (match x ((make cons (tuple y z)) (tuple y z)) (w (tuple hole w))))",
        "(match (tuple 1 (record (l true))) ((tuple _ (record)) 1) ((tuple 2 (record (l false))) 3))", "(cell (to int int) (fn x x))",
        "(fn c (write c (read c)))", "(is (fn x x) (to int int))", "(let f (fn r (extend l 1 r)) (tuple (app f (record)) (app f (record (m 1)))))",
        "(fn s (let f (fn r (tuple (extend l 1 r) (extend m 1 r) s)) (tuple (app f (record)) (fn q (app f q)))))",
        "(let f (fn r (get l r)) (fn q (tuple (app f q) (extend m 1 q))))", "(let x hole (tuple (+ x 1) (if x 1 2)))",
        "(let f (fn x (let g (fn y (tuple x y)) (tuple (app g 1) (app g true)))) (app f f))", "(fn x (fn x (let y x y)))",
        "(program (def f (fn x x)) (defrec (g (fn y (app f y))) (h hole)) (main (tuple g h (app f f))))",
        "(program (module m (struct (alias t int) (def f (fn x x)) (def y (app f 1)) (defrec (g (fn q (app f q)))))) (main (tuple (member m f) (member m g) (is (member m y) (from m t)))))",
        "(program (sig s (hide t) (val x () t) (val f (a b) (to a (to b (tuple a t))))) (module m (struct (alias t int) (def x 1) (def f (fn u (fn v (tuple u x))))) s) (main (tuple (app (member m f) 1) (member m f) (member m x))))",
        """(program (sig s (hide t) (val x () t) (val i (a) (to a a))) (functor fu (p s) ((alias r (tuple (from p t) int))
            (def y (tuple (member p x) 1)) (def k (fn z (app (member p i) z)))) ((hide r) (val y () r) (val k (a) (to a a))))
            (module n (struct (alias t bool) (def x true) (def i (fn w w)))) (module m (apply fu n))
            (main (tuple (member m y) (member m k) (app (member m k) 1))))""",
    ]

    def test_each_form(self):
        for text in self.TEXTS:
            self.assertEqual(typing_faults(typed(text)), [], text)

    def test_keys(self):
        t = typed("""(program (def f (fn x x)) (sig s (val y () int)) (module m (struct (def y 1)) s)
            (functor g (p s) ((def z (member p y))) ()) (main (match f ((choose A a _) 1) (b (member m y)))))""", ["A"])
        self.assertEqual(set(t.told), {2, 3, 10, 13, 14, 15, 18, 20, 22, 23})
        self.assertEqual(set(t.uses), {3, 13, 15, 23})
        self.assertEqual(set(t.generals), {(1, "f"), (9, "y"), (12, "z")})
        self.assertEqual(t.lacks, {})
        t = typed("(program (main (rec ((f (fn x 1)) (g hole)) (let h f g))))")
        self.assertEqual(set(t.generals), {(1, "f"), (1, "g"), (5, "h")})

    def test_generals(self):
        t = typed("(program (main (fn y (let f (fn x (tuple x y)) f))))")
        _, held, _ = t.told[1]
        _, own, _ = t.told[3]
        self.assertEqual(t.told[3], ("arrow", own, ("tuple", (own, held))))
        self.assertEqual(t.generals, {(2, "f"): (own[1],)})
        t = typed("(program (def f (fn r (get l r))) (main 1))")
        _, (_, ((_, field),), tail), _ = t.told[2]
        self.assertEqual(t.generals, {(1, "f"): tuple(sorted((field[1], tail)))})
        self.assertEqual(t.lacks, {tail: ("l",)})
        # A letter that stands in the type of a held name is not general, wherever it stands.
        t = typed("(program (main (fn y (let g (fn x (if true x y)) g))))")
        self.assertEqual(t.generals, {(2, "g"): ()})

    def test_uses_of_rows(self):
        t = typed("(program (def f (fn r (extend l 1 r))) (main (app f (record (m true)))))")
        ((letter, row),) = t.uses[7]
        self.assertEqual((letter,), t.generals[(1, "f")])
        self.assertEqual(row, ("row", (("m", ("bool",)),), None))
        self.assertEqual(t.lacks, {letter: ("l",)})
        t = typed("(program (def f (fn r (extend l 1 r))) (main (fn q (app f q))))")
        ((letter, row),) = t.uses[8]
        self.assertEqual((row[:2], t.lacks[row[2]]), (("row", ()), ("l",)))

    def test_letters_of_items(self):
        t = typed("(program (sig s (val f (b a) (to a (tuple b int)))) (module m (struct (def f hole)) s) (main (is (member m f) (to bool (tuple (record) int)))))")
        self.assertEqual(t.uses[13], ((0, ("record", (), None)), (1, ("bool",))))
        t = typed("(program (sig s (val x (a) int)) (module m (struct (def x 1)) s) (main (member m x)))")
        ((at, letter),) = t.uses[8]
        self.assertEqual((at, letter[0]), (0, "letter"))

    def test_held_names(self):
        t = typed("(fn x (rec ((f (fn y (app f x)))) (app f x)))")
        uses = [t.uses[k] for k in sorted(t.uses)]
        self.assertEqual([len(pairs) for pairs in uses], [0, 0, len(t.generals[list(t.generals)[0]]), 0])

    def test_no_stones(self):
        t = typed("(program (sig s (val f (a) (to a a))) (module m (struct (def f (fn x x))) s) (main (member m f)))")
        self.assertNotIn("stone", str(t.told) + str(t.uses))


class Random(unittest.TestCase):
    def test_programs(self):
        typings = 0
        for seed in range(MANY):
            chance = random.Random(seed)
            switches = ("A", "B", "C")[:seed % 4]
            tree = Programs(chance, switches, chance.choice([(), (1, 2), (5, 2, 3)]), chance.choice([0, 0.01, 0.03]),
                            chance.choice([0.1, 0.2]), seed % 2).program(chance.randint(0, 6), chance.randint(2, 5))
            typings += self.compare(tree, check(tree))
        self.assertGreater(typings, MANY)

    def test_bare_terms(self):
        typings = 0
        for seed in range(3 * MANY):
            tree = BareTerms(random.Random(seed), ((), ("A",), ("A", "B"))[seed % 3], (1, 2)[:seed % 4]).program()
            typings += self.compare(tree, check(tree))
        self.assertGreater(typings, MANY // 3)

    def compare(self, tree, c):
        typings = 0
        for setting in every_setting(c.switches):
            for kept in every_setting(c.marks):
                if not holds(c.typable, [*setting, *[f"m{k}" for k in kept]]):
                    with self.assertRaises(NotTyped) as caught:
                        typing_at(c, setting, kept)
                    self.assertEqual((caught.exception.setting, caught.exception.kept), (setting, kept))
                    continue
                t = typing_at(c, setting, kept)
                typings += 1
                self.assertEqual(t.tree, kept_only(chosen(tree, setting), kept))
                self.assertEqual(typing_faults(t), [])
                # 11.8: main's type is most general, whatever is kept.
                scheme = scheme_of(t.told[t.tree[3][1]], t.lacks)
                self.assertEqual(scheme, main_scheme(t.tree))
                if kept == c.marks:
                    self.assertEqual(scheme, value_at(c.schemes, setting))
        return typings


class Large(unittest.TestCase):
    def test_large_types_end_soon(self):
        start = time.time()
        text = "x12"
        for k in range(12, 0, -1):
            text = f"(let x{k} (tuple x{k - 1} x{k - 1}) {text})"
        t = typed(f"(program (main (let x0 (fn z z) {text})))")
        self.assertEqual(len(t.generals[(4, "x1")]), 2)
        self.assertEqual(len(set(map(len, t.generals.values()))), 13)
        self.assertLess(time.time() - start, 10)


class New(unittest.TestCase):
    """11.9 and 0.3."""

    def test_what_is_told_is_new(self):
        p = read_program("(program (def f (fn r (get l r))) (main (choose A (app f (mark 1 (record (l 1)))) f)))")
        before = copy.deepcopy(p)
        c = check(p)
        names = ("program", "switches", "marks", "stages", "faults", "schemes", "typable")
        told = copy.deepcopy([getattr(c, name) for name in names])
        kept = [1]
        first = typing_at(c, (), kept)
        for one in (first.told, first.uses, first.generals, first.lacks):
            self.assertIs(type(one), dict)
            self.assertTrue(one)
            one.clear()
        second = typing_at(c, (), kept)
        self.assertEqual(typing_faults(second), [])
        self.assertTrue(second.told)
        self.assertEqual(([getattr(c, name) for name in names], p, kept), (told, before, [1]))

    def test_terms_are_tuples(self):
        t = typed("(fn r (tuple (get l r) (extend m 1 r)))")
        for pair in t.uses.values():
            self.assertIs(type(pair), tuple)
        for term in t.told.values():
            self.assertNotIn("[", str(term))


if __name__ == "__main__":
    unittest.main()
