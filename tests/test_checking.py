"""Part 8: the types of expressions and patterns, and the check of all programs at once."""

import copy
import random
import time
import unittest

from eacharm.checking import Check, check
from eacharm.choosing import chosen, kept_only
from eacharm.conditions import fixed, holds, implies
from eacharm.reader import read_program
from eacharm.scoping import names_table
from eacharm.shapes import cases_table
from eacharm.tables import value_at
from eacharm.terms import scheme_text
from eacharm.trees import all_nodes
from bareterms import BareTerms
from plaintypes import main_scheme
from programs import Programs
from samples import PLACES, Trees
from settings import every_setting, is_condition, table_faults

A_ON, A_OFF = ("A", True, False), ("A", False, True)
DATA = "(data list (a) (nil int) (cons (tuple a (of list a)))) (data box (a b) (box (tuple a b b))) (data one () (one int))"


def program(text):
    """The program of a text, or with a text as its main."""
    return read_program(text if text.startswith("(program") else f"(program {DATA} (main {text}))")


def told(text):
    """The text of the scheme of a program, or "types" where it has no typing."""
    found = check(program(text))
    stage = value_at(found.stages, ())
    return stage if stage in ("names", "types") else scheme_text(value_at(found.schemes, ()))[8:-1]


class Examples(unittest.TestCase):
    def test_examples(self):
        p = read_program("(program (def f (fn x (get l x))) (main (choose A (app f (record (l 3))) (app f (mark 1 true)))))")
        c = check(p)
        self.assertEqual(c.stages, ((A_OFF, "types"), (A_ON, "fits")))
        self.assertEqual(c.schemes, ((A_ON, (("int",), ())),))
        self.assertEqual(c.typable, ("A", True, ("m1", False, True)))
        p = read_program("(program (main (fn r (choose A (extend l 1 r) (get l r)))))")
        self.assertEqual(check(p).schemes[0][1], (
            ("arrow", ("record", (("l", ("letter", 0)),), 1), ("letter", 0)), ((1, ("l",)),)))

    def test_attributes(self):
        p = read_program("(program (main (choose B (mark 3 1) (choose A (mark 1 2) true))))")
        c = check(p)
        self.assertIsInstance(c, Check)
        self.assertIs(c.program, p)
        self.assertEqual((c.switches, c.marks), (("A", "B"), (1, 3)))
        self.assertEqual(c.stages, ((True, "fits"),))
        self.assertEqual((c.faults, c.typable), ((), True))
        self.assertEqual({s: value_at(c.schemes, s)[0] for s in every_setting(("A", "B"))},
                         {(): ("bool",), ("A",): ("int",), ("B",): ("int",), ("A", "B"): ("int",)})


class Rules(unittest.TestCase):
    def rows(self, rows):
        for text, wanted in rows:
            self.assertEqual(told(text), wanted, text)

    def test_plain(self):
        self.rows([("1", "int"), ("true", "bool"), ("hole", "?0"), ("(+ 1 2)", "int"), ("(- 1 2)", "int"),
                   ("(< 1 2)", "bool"), ("(= 1 2)", "bool"), ("(+ true 1)", "types"), ("(- 1 true)", "types"),
                   ("(< true 1)", "types"), ("(= true false)", "types"), ("(+ hole hole)", "int"),
                   ("(fn x (+ x 1))", "(to int int)"), ("(= (tuple 1 1) 1)", "types")])

    def test_functions(self):
        self.rows([("(fn x x)", "(to ?0 ?0)"), ("(fn x (fn y x))", "(to ?0 (to ?1 ?0))"), ("(fn x 1)", "(to ?0 int)"),
                   ("(app (fn x x) 1)", "int"), ("(app 1 2)", "types"), ("(app (fn x (+ x 1)) true)", "types"),
                   ("(fn f (app f 1))", "(to (to int ?0) ?0)"), ("(fn f (fn x (app f (app f x))))", "(to (to ?0 ?0) (to ?0 ?0))"),
                   ("(app (fn f (tuple (app f 1) (app f 2))) (fn x x))", "(tuple int int)"),
                   ("(fn x (fn x x))", "(to ?0 (to ?1 ?1))")])

    def test_if(self):
        self.rows([("(if true 1 2)", "int"), ("(if 1 1 2)", "types"), ("(if true 1 true)", "types"),
                   ("(fn x (if x x false))", "(to bool bool)"), ("(fn x (if true x 1))", "(to int int)")])

    def test_tuples_and_records(self):
        self.rows([("(tuple 1 true)", "(tuple int bool)"), ("(if true (tuple 1 2) (tuple 1 2 3))", "types"),
                   ("(if true (tuple 1 2) (tuple 1 true))", "types"), ("(record)", "(record)"),
                   ("(record (m 1) (l true))", "(record (l bool) (m int))"),
                   ("(if true (record (l 1) (m 2)) (record (m 3) (l 4)))", "(record (l int) (m int))"),
                   ("(if true (record (l 1)) (record))", "types"), ("(if true (record (l 1)) (record (m 1)))", "types"),
                   ("(if true (record (l 1)) (record (l true)))", "types")])

    def test_get(self):
        self.rows([("(get l (record (l 1) (m true)))", "int"), ("(get n (record (l 1)))", "types"), ("(get l 1)", "types"),
                   ("(fn r (get l r))", "(to (record (l ?0) | ?1) ?0) (lacks 1 l)"),
                   ("(fn r (+ (get l r) (get m r)))", "(to (record (l int) (m int) | ?0) int) (lacks 0 l m)"),
                   ("(fn r (tuple (get l r) (get l r)))", "(to (record (l ?0) | ?1) (tuple ?0 ?0)) (lacks 1 l)"),
                   ("(fn r (+ (get l r) (if (get l r) 1 2)))", "types"), ("(get l (tag l 1))", "types")])

    def test_extend(self):
        self.rows([("(extend l 1 (record))", "(record (l int))"), ("(extend l 1 (record (m true)))", "(record (l int) (m bool))"),
                   ("(extend l 1 (record (l 2)))", "types"), ("(extend l 1 2)", "types"),
                   ("(fn r (extend l 1 r))", "(to (record | ?0) (record (l int) | ?0)) (lacks 0 l)"),
                   ("(fn r (extend l (get m r) r))", "(to (record (m ?0) | ?1) (record (l ?0) (m ?0) | ?1)) (lacks 1 l m)"),
                   ("(fn r (extend l (get l r) r))", "types"), ("(fn r (extend l 1 (extend l 2 r)))", "types"),
                   ("(app (fn r (extend l 1 r)) (record (l 1)))", "types")])

    def test_update(self):
        self.rows([("(update l true (record (l 1) (m 2)))", "(record (l bool) (m int))"), ("(update l 1 (record))", "types"),
                   ("(update l 1 2)", "types"), ("(update l 1 (record (m 1)))", "types"),
                   ("(fn r (update l 1 r))", "(to (record (l ?0) | ?1) (record (l int) | ?1)) (lacks 1 l)")])

    def test_without(self):
        self.rows([("(without l (record (l 1) (m 2)))", "(record (m int))"), ("(without l (record))", "types"),
                   ("(without l 1)", "types"), ("(get l (without l (record (l 1))))", "types"),
                   ("(fn r (without l r))", "(to (record (l ?0) | ?1) (record | ?1)) (lacks 1 l)"),
                   ("(fn r (extend l 1 (without l r)))", "(to (record (l ?0) | ?1) (record (l int) | ?1)) (lacks 1 l)"),
                   ("(fn r (without l (without l r)))", "types")])

    def test_tags_and_cases(self):
        self.rows([("(tag l 1)", "(tags (l int) | ?0) (lacks 0 l)"),
                   ("(if true (tag l 1) (tag m true))", "(tags (l int) (m bool) | ?0) (lacks 0 l m)"),
                   ("(if true (tag l 1) (tag l true))", "types"),
                   ("(case (tag l 1) (l x (+ x 1)))", "int"), ("(case (tag m 1) (l x x))", "types"), ("(case 1 (l x x))", "types"),
                   ("(case (record (l 1)) (l x x))", "types"), ("(case (tag l true) (l x (+ x 1)))", "types"),
                   ("(fn v (case v (l x x) (m y 1)))", "(to (tags (l int) (m ?0)) int)"),
                   ("(fn v (case v (l x x) (m y true)))", "(to (tags (l bool) (m ?0)) bool)"),
                   ("(case (tag l 1) (l x x) (m y true))", "types"),
                   ("(case (tag n 1) (l x 1) (else z 2))", "int"),
                   ("(fn v (case v (l x 1) (else z z)))", "types"),
                   ("(fn v (case v (l x 1) (else z 2)))", "(to (tags (l ?0) | ?1) int) (lacks 1 l)"),
                   ("(fn v (case v (l x (tag m x)) (else z z)))",
                    "(to (tags (l ?0) (m ?0) | ?1) (tags (m ?0) | ?1)) (lacks 1 l m)"),
                   ("(fn v (case v (l x 1) (else z (case z (m y y)))))", "(to (tags (l ?0) (m int)) int)"),
                   ("(fn v (case v (l x 1) (else z (case z (l y y)))))", "types"),
                   ("(fn v (case v (l x 1) (else z (case z (m y 2) (else w 3)))))",
                    "(to (tags (l ?0) (m ?1) | ?2) int) (lacks 2 l m)"),
                   ("(case (if true (tag l 1) (tag m 2)) (l x x))", "types"),
                   ("(case (is hole (tags (l int))) (l x x) (else z (case z (m y y))))", "types"),
                   ("(case (is hole (tags (l int))) (l x x) (else z 2))", "int")])

    def test_makes(self):
        self.rows([("(make nil 1)", "(of list ?0)"), ("(make nil true)", "types"), ("(make one 1)", "(of one)"),
                   ("(make cons (tuple 1 (make nil 0)))", "(of list int)"), ("(make cons 1)", "types"),
                   ("(make cons (tuple 1 (make cons (tuple true (make nil 0)))))", "types"),
                   ("(make box (tuple 1 true false))", "(of box int bool)"), ("(make box (tuple 1 true 2))", "types"),
                   ("(fn x (make box x))", "(to (tuple ?0 ?1 ?1) (of box ?0 ?1))"), ("(if true (make one 1) (make nil 1))", "types"),
                   ("(if true (make cons (tuple 1 (make nil 1))) (make nil 1))", "(of list int)")])

    def test_matches(self):
        self.rows([("(fn x (match x (1 true) (_ false)))", "(to int bool)"), ("(match 1 (true 2) (_ 3))", "types"),
                   ("(match 1 (x x) (_ true))", "types"), ("(match 1 (1 2) (true 3) (_ 4))", "types"),
                   ("(match (tuple 1 true) ((tuple x y) (tuple y x)))", "(tuple bool int)"),
                   ("(match (tuple 1 true) ((tuple x y z) x))", "types"), ("(match 1 ((tuple x y) 1))", "types"),
                   ("(fn x (match x ((record (l y) (m true)) y) (_ 1)))", "(to (record (l int) (m bool) | ?0) int) (lacks 0 l m)"),
                   ("(match (record (l 1) (m 2)) ((record (l x)) x))", "int"), ("(match (record (m 2)) ((record (l x)) x))", "types"),
                   ("(match 1 ((record) 1))", "types"), ("(match (record (l 1)) ((record) 1))", "int"),
                   ("(fn v (match v ((make cons (tuple x y)) x) ((make nil _) 0)))", "(to (of list int) int)"),
                   ("(match (make one 1) ((make nil _) 1) (_ 2))", "types"), ("(match (make one 1) ((make one true) 1) (_ 2))", "types"),
                   ("(match 1 (x (match true (y (tuple x y)))))", "(tuple int bool)"),
                   ("(fn x (match x (y y)))", "(to ?0 ?0)"), ("(fn x (match x (_ x)))", "(to ?0 ?0)"),
                   ("(match (fn x x) (f (tuple (app f 1) (app f true))))", "types")])
        # Without arms the whole has any type; chosen programs may have such a match.
        tree = ("program", 0, (), ("fn", 1, "x", ("match", 2, ("name", 3, "x"), ())))
        self.assertEqual(check(tree).schemes, ((True, (("arrow", ("letter", 0), ("letter", 1)), ())),))
        self.assertEqual(check(tree).stages, ((True, "cases"),))

    def test_cells(self):
        self.rows([("(cell int 1)", "(cell int)"), ("(cell int true)", "types"), ("(read (cell int 1))", "int"), ("(read 1)", "types"),
                   ("(write (cell int 1) 2)", "(record)"), ("(write (cell int 1) true)", "types"), ("(write 1 1)", "types"),
                   ("(fn c (write c (+ 1 (read c))))", "(to (cell int) (record))"), ("(fn c (read c))", "(to (cell ?0) ?0)"),
                   ("(cell (to int int) (fn x x))", "(cell (to int int))"), ("(if true (cell int 1) (cell bool true))", "types")])

    def test_is_and_written_types(self):
        self.rows([("(is 1 int)", "int"), ("(is 1 bool)", "types"), ("(is (fn x x) (to int int))", "(to int int)"),
                   ("(is (fn x 1) (to int bool))", "types"), ("(is hole (tuple int (record (m bool) (l int))))",
                                                              "(tuple int (record (l int) (m bool)))"),
                   ("(is (record (l 1) (m 2)) (record (l int)))", "types"), ("(is (tag l 1) (tags (m int) (l int)))",
                                                                            "(tags (l int) (m int))"),
                   ("(is (tag l 1) (tags (m int)))", "types"), ("(is hole (tags))", "(tags)"), ("(is hole (cell bool))", "(cell bool)"),
                   ("(is (make nil 1) (of list (of one)))", "(of list (of one))"), ("(is (make nil 1) (of one))", "types"),
                   ("(app (is (fn x x) (to int int)) true)", "types")])

    def test_loops(self):
        self.rows([("(fn x (app x x))", "types"), ("(fn x (if true x (tuple x x)))", "types"),
                   ("(rec ((f (fn x f))) f)", "types"), ("(fn x (if true x (record (l x))))", "types"),
                   ("(fn r (if true r (get l r)))", "types"), ("(fn x (if true x (make cons (tuple x x))))", "types"),
                   ("(fn c (write c c))", "types"), ("(fn r (if true r (extend l 1 r)))", "types"),
                   ("(fn r (fn s (if true (extend l 1 r) (extend m 2 s))))",
                    "(to (record (m int) | ?0) (to (record (l int) | ?0) (record (l int) (m int) | ?0))) (lacks 0 l m)"),
                   ("(fn r (if true (extend l 1 r) (extend m 2 r)))", "types")])

    def test_lacked_labels_go_along(self):
        self.rows([("(fn r (fn s (let u (if true r s) (tuple (extend l 1 r) (get m s)))))",
                    "(to (record (m ?0) | ?1) (to (record (m ?0) | ?1) (tuple (record (l int) (m ?0) | ?1) ?0))) (lacks 1 l m)"),
                   ("(let f (fn r (extend l 1 r)) (fn s (app f s)))", "(to (record | ?0) (record (l int) | ?0)) (lacks 0 l)"),
                   ("(let f (fn r (extend l 1 r)) (app f (app f (record))))", "types"),
                   ("(let f (fn r (extend l 1 r)) (app f (record (m 1))))", "(record (l int) (m int))")])


class General(unittest.TestCase):
    """8.4 to 8.6: what is general and what is held."""

    def rows(self, rows):
        for text, wanted in rows:
            self.assertEqual(told(text), wanted, text)

    def test_let(self):
        self.rows([("(let f (fn x x) (tuple (app f 1) (app f true)))", "(tuple int bool)"),
                   ("(app (fn f (tuple (app f 1) (app f true))) (fn x x))", "types"),
                   ("(fn y (let f (fn x y) (tuple (app f 1) (app f true))))", "(to ?0 (tuple ?0 ?0))"),
                   ("(fn y (let f (fn x (tuple x y)) (tuple (app f 1) (app f true))))",
                    "(to ?0 (tuple (tuple int ?0) (tuple bool ?0)))"),
                   ("(fn y (let z y (tuple (+ z 1) (if z 1 2))))", "types"),
                   ("(fn y (let z y (+ z 1)))", "(to int int)"),
                   ("(let g (fn r (get l r)) (tuple (app g (record (l 1))) (app g (record (l true) (m 2)))))", "(tuple int bool)"),
                   ("(fn r (let g (get l r) (tuple (+ g 1) (if g 1 2))))", "types"),
                   ("(let x 1 (let x true (if x 1 2)))", "int"), ("(let f (fn x (app x x)) 1)", "types"),
                   ("(let x hole (tuple (+ x 1) (if x 1 2)))", "(tuple int int)"),
                   ("(let x (tag l 1) (tuple (case x (l y y)) (case x (l y y) (m z 2))))", "(tuple int int)"),
                   ("(let c (cell int 1) (write c true))", "types")])

    def test_held_names(self):
        self.rows([("(fn x (fn x (let y hole (tuple y x))))", "(to ?0 (to ?1 (tuple ?2 ?1)))"),
                   # A held name that is hidden is held all the same.
                   ("(fn x (let z x (fn x (let y z (tuple (+ y 1) (if y 1 2))))))", "types"),
                   ("(case (tag l hole) (l x (let y x (tuple (+ y 1) (if y 1 2)))))", "types"),
                   ("(case hole (l x 1) (else z (let y z (tuple (case y (m a 1)) (case y (n a 1))))))", "types"),
                   ("(match hole (x (let y x (tuple (+ y 1) (if y 1 2)))))", "types"),
                   ("(match hole ((tuple x w) (let y x (tuple (+ y 1) (if y 1 2)))))", "types"),
                   ("(rec ((f (fn x (let g f (tuple (app g 1) (app g true)))))) 1)", "types"),
                   ("(rec ((f (fn x x))) (let g f (tuple (app g 1) (app g true))))", "(tuple int bool)")])

    def test_groups(self):
        self.rows([("(rec ((f (fn x x))) (tuple (app f 1) (app f true)))", "(tuple int bool)"),
                   ("(rec ((f (fn x (tuple (app f 1) (app f true))))) f)", "types"),
                   ("(rec ((f (fn x (if true x (app f x))))) f)", "(to ?0 ?0)"),
                   ("(rec ((f (fn x (app g x))) (g (fn y (app f y)))) (tuple f g))", "(tuple (to ?0 ?1) (to ?2 ?3))"),
                   ("(rec ((f (fn x (app g 1))) (g (fn y y))) g)", "(to int int)"),
                   ("(rec ((f (fn x x)) (g (fn y (app f 1)))) f)", "(to int int)"),
                   ("(fn z (rec ((f (fn x z))) (tuple (app f 1) (app f true))))", "(to ?0 (tuple ?0 ?0))"),
                   ("(rec ((f hole)) (tuple (+ f 1) (if f 1 2)))", "(tuple int int)"),
                   ("(rec ((f (fn x (+ x 1)))) (app f true))", "types")])

    def test_declarations(self):
        self.rows([("(program (def f (fn x x)) (main (tuple (app f 1) (app f true))))", "(tuple int bool)"),
                   ("(program (def y hole) (main (tuple (+ y 1) (if y 1 2))))", "(tuple int int)"),
                   ("(program (defrec (f (fn x (app g x))) (g (fn x (app f x)))) (main (tuple (app f 1) (app f true))))", "(tuple ?0 ?1)"),
                   ("(program (defrec (f (fn x (tuple (app f 1) (app f true))))) (main 1))", "types"),
                   ("(program (def f (fn x (app x x))) (main 1))", "types"), ("(program (def f (+ 1 true)) (main 1))", "types"),
                   ("(program (def x 1) (def y (if x 1 2)) (main 1))", "types"),
                   ("(program (module m (struct (def f (+ 1 true)))) (main 1))", "types"),
                   ("(program (sig s) (functor f (x s) ((def y (+ 1 true))) ()) (main 1))", "types"),
                   ("(program (def x 1) (module m (struct (def x true) (def y (if x 1 2)))) (main (+ x 1)))", "int")])

    def test_general_at_one_setting_and_held_at_another(self):
        # At A the type of z is that of the held name, elsewhere it is general.
        p = program("(fn y (let z (choose A y hole) (tuple (choose B (+ z 1) 2) (if z 1 2))))")
        c = check(p)
        self.assertEqual({s: value_at(c.stages, s) for s in every_setting("AB")},
                         {(): "fits", ("A",): "fits", ("B",): "fits", ("A", "B"): "types"})
        self.assertEqual(scheme_text(value_at(c.schemes, ("B",))), "(scheme (to ?0 (tuple int int)))")
        self.assertEqual(scheme_text(value_at(c.schemes, ("A",))), "(scheme (to bool (tuple int int)))")
        p = program("(fn y (let f (fn x (choose A (if true x y) x)) (tuple (app f 1) (app f true))))")
        self.assertEqual(check(p).stages, ((A_OFF, "fits"), (A_ON, "types")))
        p = program("(fn s (let f (fn r (choose A (extend l 1 r) (choose B (if true r s) r))) (tuple (app f (record)) (app f (record (m 1))))))")
        c = check(p)
        self.assertEqual({s: value_at(c.stages, s) for s in every_setting("AB")},
                         {(): "fits", ("A",): "fits", ("B",): "types", ("A", "B"): "fits"})

    def test_marks_and_generality(self):
        p = program("(fn y (let z (mark 1 y) (tuple (+ z 1) (if z 1 2))))")
        self.assertEqual(check(p).typable, ("m1", False, True))


class Stages(unittest.TestCase):
    def test_order_of_the_stages(self):
        for text, stage in [("(tuple x (+ 1 true) (match 1 (1 2)))", "names"), ("(tuple (+ 1 true) (match 1 (1 2)))", "types"),
                            ("(match 1 (1 2))", "cases"), ("(match 1 (1 2) (_ 3))", "fits")]:
            c = check(program(text))
            self.assertEqual(c.stages, ((True, stage),))
            self.assertEqual(bool(c.faults), stage in ("names", "cases"))
            self.assertEqual(bool(c.schemes), stage in ("cases", "fits"))
            self.assertEqual(c.typable, stage in ("cases", "fits"))

    def test_faults(self):
        p = read_program("(program (main (choose A x (choose B (+ 1 true) (match 1 (1 2))))))")
        c = check(p)
        self.assertEqual(c.stages, ((("A", False, ("B", False, True)), "cases"), (("A", False, ("B", True, False)), "types"),
                                    (A_ON, "names")))
        self.assertEqual(c.faults, ((("A", False, ("B", False, True)), (7, ("number", 0))), (A_ON, (2, "unknown"))))
        self.assertEqual(c.schemes, ((("A", False, ("B", False, True)), (("int",), ())),))
        self.assertEqual(c.typable, ("A", False, ("B", False, True)))

    def test_cases_keep_marks(self):
        c = check(read_program("(program (main (mark 1 (match 1 (1 2)))))"))
        self.assertEqual((c.stages, c.typable), (((True, "cases"),), True))
        self.assertEqual(c.schemes, ((True, (("int",), ())),))

    def test_unlike_data_at_unlike_settings(self):
        p = read_program("(program (when A ((data d () (c int))) ((data d (p) (c p)))) (main (make c 1)))")
        self.assertEqual(check(p).schemes, ((A_OFF, (("data", "d", (("int",),)), ())), (A_ON, (("data", "d", ()), ()))))
        p = read_program("(program (data d () (c (choose A int bool))) (main (make c 1)))")
        self.assertEqual(check(p).stages, ((A_OFF, "types"), (A_ON, "fits")))
        p = read_program("(program (data d () (when A ((c int)) ((c bool)))) (main (match (make c 1) ((make c x) x))))")
        self.assertEqual(check(p).schemes, ((A_ON, (("int",), ())),))

    def test_edits_switches(self):
        tree = ("program", 0, (), ("choose", 1, "e1", ("number", 2, 1), ("op", 3, "+", ("number", 4, 1), ("truth", 5, True))))
        c = check(tree)
        self.assertEqual((c.switches, c.typable), (("e1",), ("e1", True, False)))


class Marks(unittest.TestCase):
    def test_marks_inside_marks(self):
        p = program("(mark 1 (+ 1 (mark 2 (if (mark 3 1) 2 3))))")
        self.assertEqual(check(p).typable, ("m1", ("m2", ("m3", False, True), True), True))

    def test_under_choices(self):
        p = program("(choose A (+ 1 (mark 1 true)) (if (mark 2 1) 1 2))")
        self.assertEqual(check(p).typable, ("A", ("m1", False, True), ("m2", False, True)))
        p = program("(mark 1 (choose A x 1))")
        self.assertEqual((check(p).typable, check(p).stages), (A_OFF, ((A_OFF, "fits"), (A_ON, "names"))))

    def test_names_are_judged_with_every_mark(self):
        self.assertEqual(check(program("(mark 1 x)")).typable, False)

    def test_example_of_part_12(self):
        p = program("(let g (fn x (if (mark 1 x) (mark 2 (+ x 1)) 0)) 5)")
        self.assertEqual(check(p).typable, ("m1", ("m2", False, True), True))

    def test_schemes_with_every_mark(self):
        p = program("(mark 1 (choose A 1 (mark 2 true)))")
        self.assertEqual(check(p).schemes, ((A_OFF, (("bool",), ())), (A_ON, (("int",), ()))))

    def test_fewer_marks_hold_wherever_more_do(self):
        for seed in range(100):
            p = Programs(random.Random(seed), ("A",), (1, 2, 3), wild=0.05).program(2, 5)
            c = check(p)
            self.assertTrue(is_condition(c.typable))
            for k in c.marks:
                mark = f"m{k}"
                self.assertTrue(implies(fixed(c.typable, mark, True), fixed(c.typable, mark, False)))


class Random(unittest.TestCase):
    """8.8 to 8.11 for programs of every form: the check of each chosen program, and plain types."""

    def compare(self, tree, switches, marks=True):
        c = check(tree)
        for table in (c.stages, c.faults, c.schemes):
            self.assertEqual(table_faults(table, c.switches), [])
        self.assertLessEqual(set(c.switches), set(switches))
        for setting in every_setting(c.switches):
            one = chosen(tree, setting)
            d = check(one)
            for name in ("stages", "faults", "schemes"):
                self.assertEqual(value_at(getattr(c, name), setting), value_at(getattr(d, name), ()))
            self.compare_with_plain(c, one, setting, marks)

    def compare_with_plain(self, c, one, setting, marks):
        names, cases = names_table(one), cases_table(one)
        whole = None if names else main_scheme(kept_only(one, c.marks))
        stage = "names" if names else "types" if whole is None else "cases" if cases else "fits"
        self.assertEqual(value_at(c.stages, setting), stage)
        self.assertEqual(value_at(c.schemes, setting), whole)
        fault = {"names": names, "cases": cases}.get(stage, ())
        self.assertEqual(value_at(c.faults, setting), fault[0][1] if fault else None)
        for kept in every_setting(c.marks) if marks else ():
            here = not names and main_scheme(kept_only(one, kept)) is not None
            self.assertEqual(holds(c.typable, [*setting, *[f"m{k}" for k in kept]]), here)

    def test_programs(self):
        for seed in range(300):
            chance = random.Random(seed)
            switches = ("A", "B", "C")[:seed % 4]
            makes = Programs(chance, switches, chance.choice([(), (1, 2), (5, 2, 3)]), chance.choice([0, 0.01, 0.03]),
                             chance.choice([0.1, 0.2]), seed % 3 == 0)
            self.compare(makes.program(chance.randint(0, 6), chance.randint(2, 5)), switches)

    def test_bare_terms(self):
        for seed in range(600):
            switches = ((), ("A",), ("A", "B"))[seed % 3]
            self.compare(BareTerms(random.Random(seed), switches, (1, 2)[:seed % 4]).program(), switches)

    def test_programs_without_sense(self):
        for seed in range(100):
            self.compare(Trees(random.Random(seed)).program(seed % 6, 4), ("A", "B", "C"), False)


class Whole(unittest.TestCase):
    def test_large_programs_end_soon(self):
        switches = tuple("ABCDEFGH")
        many, wanted = 0, 0
        for seed in range(400):
            chance = random.Random(seed)
            p = Programs(chance, switches, (1, 2, 3, 4), 0.001, 0.2, seed % 2).program(chance.randint(8, 14), 6)
            if 300 <= len(all_nodes(p)) <= 420:
                many += 1
                start = time.time()
                check(p)
                wanted = max(wanted, time.time() - start)
        self.assertGreater(many, 20)
        self.assertLess(wanted, 3)

    def test_many_schemes(self):
        text = "(choose A 1 true)"
        for switch in "BCDEFGH":
            text = f"(tuple (choose {switch} 1 true) {text})"
        for mark in range(1, 5):
            text = f"(tuple (mark {mark} 1) {text})"
        c = check(read_program(f"(program (main {text}))"))
        self.assertEqual((len(c.schemes), c.stages), (256, ((True, "fits"),)))

    def test_definitions_of_many_settings(self):
        rows = "".join(f"(def f{k} (fn r (choose {s} (extend l{k} {k} r) (tuple r r))))" for k, s in enumerate("ABCDEFGH"))
        text = "(record)"
        for k in range(8):
            text = f"(app f{k} (mark {k + 1} {text}))" if k < 4 else f"(app f{k} {text})"
        p = read_program(f"(program {rows} (main {text}))")
        c = check(p)
        # Only a record can be extended: once a tuple is made, all that follows makes tuples.
        for setting in every_setting("ABCDEFGH"):
            states = [s in setting for s in "ABCDEFGH"]
            good = states == sorted(states, reverse=True)
            self.assertEqual(value_at(c.stages, setting), "fits" if good else "types")

    def test_definitions_that_are_used_again_and_again(self):
        start = time.time()
        rows = "(def x0 (fn y y))" + "".join(
            f"(def x{k} (choose {'ABCDEFGH'[k % 8]} (tuple x{k - 1} 1) (tuple x{k - 1} 2)))" for k in range(1, 30))
        c = check(read_program(f"(program {rows} (main x29))"))
        self.assertEqual((len(c.schemes), c.stages), (1, ((True, "fits"),)))
        text = "(get l x8)"
        for k in range(8, 0, -1):
            more = f"(tuple x{k - 1} x{k - 1}) (record (l x{k - 1}) (m x{k - 1}))"
            text = f"(let x{k} (choose {'ABCDEFGH'[k % 8]} {more}) {text})"
        c = check(read_program(f"(program (main (let x0 (fn z z) {text})))"))
        self.assertEqual((len(c.schemes), c.typable), (128, A_OFF))
        self.assertLess(time.time() - start, 10)

    def test_deep_trees_and_types(self):
        # Trees with edits laid in have at most 60 levels, terms at most 100.
        node = ("name", 1, "x")
        for k in range(2, 58):
            node = ("fn", k, "x", node) if k % 2 else ("choose", k, f"e{k % 6 + 1}", node, ("hole", k + 100))
        c = check(("program", 0, (), ("fn", 900, "x", node)))
        self.assertEqual(c.stages, ((True, "fits"),))
        rows = [("def", 1, "x0", ("fn", 2, "y", ("name", 3, "y")))]
        for k in range(1, 97):
            rows.append(("def", 4 * k, f"x{k}", ("tuple", 4 * k + 1, (("name", 4 * k + 2, f"x{k - 1}"), ("number", 4 * k + 3, 1)))))
        c = check(("program", 0, tuple(rows), ("name", 1000, "x96")))
        self.assertEqual(c.stages, ((True, "fits"),))
        self.assertEqual(scheme_text(c.schemes[0][1]).count("tuple"), 96)

    def test_no_argument_is_changed(self):
        before = copy.deepcopy(PLACES)
        first, second = check(PLACES), check(PLACES)
        self.assertEqual(PLACES, before)
        for name in ("program", "switches", "marks", "stages", "faults", "schemes", "typable"):
            self.assertEqual(getattr(first, name), getattr(second, name))


if __name__ == "__main__":
    unittest.main()
