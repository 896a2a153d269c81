"""Part 13: the machine."""

import copy
import os
import random
import time
import unittest

from eacharm.choosing import chosen, switches_in
from eacharm.errors import ArmError, Undecided
from eacharm.machine import Machine, run
from eacharm.reader import read_program
from eacharm.trees import all_nodes
from bareterms import BareTerms
from plainruns import plain_run
from programs import Programs
from samples import PLACES, Trees
from settings import every_setting

MANY = int(os.environ.get("PROGRAMS", 300))
LOOP = "(defrec (f (fn n (if (< n 1) 0 (+ 1 (app f (- n 1)))))))"
TAIL = "(defrec (f (fn n (if (< n 1) 0 (app f (- n 1))))))"


def program(text):
    return read_program(text if text.startswith("(program") else f"(program (main {text}))")


def outcome(text, fuel=400):
    return run(program(text), fuel)


def number(k):
    return ("number", k)


YES, NO, FN, DEEP, NONE = ("truth", True), ("truth", False), ("fn",), ("deep",), ("record", ())


class Examples(unittest.TestCase):
    def test_examples(self):
        self.assertEqual(outcome("(program (def f (fn x (+ x 1))) (main (tuple (app f 2) true)))"),
                         ("value", ("tuple", (number(3), YES)), 1))
        self.assertEqual(run(program("(if 3 1 2)"), fuel=0), ("stuck", 1, 0))


class Values(unittest.TestCase):
    """13.3 and 13.4."""

    def rows(self, rows):
        for text, wanted in rows:
            self.assertEqual(outcome(text)[:2], ("value", wanted), text)

    def test_plain(self):
        self.rows([("1", number(1)), ("-7", number(-7)), ("true", YES), ("false", NO), ("(fn x hole)", FN), ("(record)", NONE),
                   ("(+ 2 3)", number(5)), ("(- 2 3)", number(-1)), ("(< 2 3)", YES), ("(< 3 3)", NO), ("(= 3 3)", YES), ("(= 2 3)", NO),
                   ("(tuple 1 true)", ("tuple", (number(1), YES))), ("(let x 1 (let x 2 x))", number(2)), ("(let x 1 (tuple (let x 2 x) x))", ("tuple", (number(2), number(1)))),
                   ("(if true 1 hole)", number(1)), ("(if false hole 2)", number(2)), ("(is 1 bool)", number(1)), ("(mark 3 (mark 2 4))", number(4)),
                   ("(tag l 1)", ("tag", "l", number(1))), ("(make nodata 1)", ("make", "nodata", number(1)))])

    def test_records(self):
        self.rows([("(record (m 1) (l 2))", ("record", (("l", number(2)), ("m", number(1))))), ("(get l (record (m 1) (l 2)))", number(2)),
                   ("(extend b 1 (record (a 2) (c 3)))", ("record", (("a", number(2)), ("b", number(1)), ("c", number(3))))),
                   ("(update m true (record (m 1) (l 2)))", ("record", (("l", number(2)), ("m", YES)))),
                   ("(without m (record (m 1) (l 2)))", ("record", (("l", number(2)),))), ("(without l (record (l 2)))", NONE)])

    def test_functions(self):
        self.rows([("(app (fn x (fn y x)) 1)", FN), ("(app (app (fn x (fn y (- x y))) 5) 3)", number(2)),
                   ("(let x 1 (let f (fn y x) (let x 2 (app f 0))))", number(1)),
                   ("(app (fn x (app (fn x x) (+ x 1))) 1)", number(2)),
                   ("(let f (fn x (app x x)) (app f (fn y 3)))", number(3))])

    def test_cases(self):
        self.rows([("(case (tag l 1) (l x (+ x 1)) (m y 0))", number(2)), ("(case (tag m 1) (l x (+ x 1)) (m y y))", number(1)),
                   ("(case (tag n 1) (l x x) (else z z))", ("tag", "n", number(1))), ("(case (tag l 1) (l x x) (else z z))", number(1)),
                   ("(case (tag l 1) (l x (+ x 10)) (l x (+ x 20)))", number(11))])

    def test_matches(self):
        self.rows([("(match 2 (1 true) (2 false) (_ 0))", NO), ("(match 3 (1 true) (2 false) (x x))", number(3)),
                   ("(match (tuple 1 (record (l 2) (m 3))) ((tuple x (record (m y))) (tuple y x)))", ("tuple", (number(3), number(1)))),
                   ("(match (make c (tuple 1 true)) ((make d x) 0) ((make c (tuple _ false)) 1) ((make c (tuple x y)) (tuple x y)))", ("tuple", (number(1), YES))),
                   ("(match true (1 1) (true 2))", number(2)), ("(match 1 (true 1) (1 2))", number(2)),
                   ("(match (tuple 1 2) ((tuple x x) x))", number(2)), ("(match (fn x x) ((record) 1) ((tuple _ _) 2) (_ 3))", number(3)),
                   ("(let x 5 (match 1 (x x)))", number(1)), ("(match (cell int 1) (1 1) (_ 2))", number(2)),
                   ("(match (record (l 1)) ((record (m x)) 1) ((record) 2))", number(2)), ("(match (tuple 1 2 3) ((tuple a b) 1) ((tuple a b c) c))", number(3))])

    def test_cells(self):
        self.rows([("(read (cell bool 1))", number(1)), ("(cell int 1)", ("cell", number(1))), ("(write (cell int 1) 2)", NONE),
                   ("(let c (cell int 1) (let x (write c 5) (tuple x (read c) c)))", ("tuple", (NONE, number(5), ("cell", number(5))))),
                   ("(let c (cell int 1) (let d c (let x (write c 2) (read d))))", number(2)),
                   ("(let f (fn x (cell int x)) (let c (app f 1) (let d (app f 1) (let x (write c 2) (tuple (read c) (read d))))))", ("tuple", (number(2), number(1)))),
                   # The content at the end of the run.
                   ("(let c (cell int 1) (match (tuple c (write c 7)) ((tuple d _) d)))", ("cell", number(7))),
                   ("(let c (cell int 1) (let x (write c (fn y c)) c))", ("cell", FN))])

    def test_deep_values(self):
        text, wanted = "1", number(1)
        for _ in range(6):
            text, wanted = f"(tuple {text} true)", ("tuple", (wanted, YES))
        self.assertEqual(outcome(text), ("value", wanted, 0))
        # Seven steps: each form lies once around the deep part.
        forms = [("(tuple {} {})", lambda w: ("tuple", (w, w))), ("(record (l {}))", lambda w: ("record", (("l", w),))),
                 ("(tag l {})", lambda w: ("tag", "l", w)), ("(make c {})", lambda w: ("make", "c", w)), ("(cell int {})", lambda w: ("cell", w))]
        for first in range(5):
            text, wanted = "1", DEEP
            for k in range(7):
                form, make = forms[(first + k) % 5]
                text, wanted = form.format(text, text), make(wanted)
            self.assertEqual(outcome(text), ("value", wanted, 0))
        # A function that lies too deep is deep, too.
        for steps, told in ((6, FN), (7, DEEP), (9, DEEP)):
            text = "(fn x x)"
            for _ in range(steps):
                text = f"(tag l {text})"
            for _ in range(min(steps, 7)):
                told = ("tag", "l", told)
            self.assertEqual(outcome(text)[1], told)

    def test_a_cell_in_itself(self):
        told = DEEP
        for _ in range(7):
            told = ("cell", told)
        self.assertEqual(outcome("(let c (cell int 1) (let x (write c c) c))")[1], told)

    def test_large_numbers(self):
        text = "(program (defrec (f (fn n (fn k (if (< n 1) k (app (app f (- n 1)) (+ k k))))))) (main (app (app f 900) 1)))"
        self.assertEqual(outcome(text, 2000), ("value", number(2 ** 900), 1802))
        # More figures than Python prints: sixteen doublings in each call.
        doubled = "(app (app f (- n 1)) x)"
        for _ in range(8):
            doubled = f"(let y (+ x x) (let x (+ y y) {doubled}))"
        text = f"(program (defrec (f (fn n (fn x (if (< n 1) x {doubled}))))) (main {{}}))"
        told = run(program(text.format("(app (app f 999) 1)")), 2000)
        self.assertTrue(told == ("value", number(2 ** (16 * 999)), 2000))
        with self.assertRaises(ValueError):
            str(told)
        told = run(program(text.format("(let x (app (app f 999) 1) (tuple (< x 1) (= x x) (- x x) (match x (1 2) (_ 3))))")), 2000)
        self.assertEqual(told[1], ("tuple", (NO, YES, number(0), number(3))))


class Order(unittest.TestCase):
    """13.4: which of two ends comes first tells the order."""

    def first(self, text, word):
        """The end is at the first node in reading order that is a hole, or an open name."""
        p = program(text)
        ends = [n[1] for n in all_nodes(p[3]) if n[0] == "hole" or n[:3] == ("name", n[1], "open")]
        found = run(p)
        self.assertEqual(found[1], min(ends), text)
        self.assertIn(found[0], ("hole", "stuck"))
        if word:
            self.assertEqual(found[0], word, text)

    def test_parts(self):
        for form in ("(app {} {})", "(+ {} {})", "(< {} {})", "(tuple {} {})", "(tuple 1 {} {})", "(record (m {}) (l {}))", "(record (l 1) (l {}) (a {}))",
                     "(extend l {} {})", "(update l {} {})", "(write {} {})", "(let x {} {})", "(if {} {} 1)", "(match {} (_ {}))",
                     "(case {} (l x {}))", "(app (app {} 1) {})", "(app true {})", "(+ true {})", "(tuple (tag l {}) (make c {}))", "(tuple (get l {}) {})",
                     "(tuple (read {}) {})", "(tuple (cell int {}) {})", "(tuple (is {} int) {})", "(tuple (mark 1 {}) {})", "(tuple (without l {}) {})",
                     "(extend l 1 (extend l {} 3))", "(write 1 {})"):
            for words in (("hole", "open"), ("open", "hole")):
                self.first(form.format(*words[:form.count("{}")]), words[0] if words[0] == "hole" else "stuck")

    def test_declarations_come_in_order(self):
        self.assertEqual(outcome("(program (def x hole) (def y open) (main z))"), ("hole", 2, 0))
        self.assertEqual(outcome("(program (def x 1) (def y open) (main hole))"), ("stuck", 4, 0))
        self.assertEqual(outcome("(program (module m (struct (def x 1) (def y hole))) (def z open) (main 1))"), ("hole", 6, 0))

    def test_one_branch_alone(self):
        self.assertEqual(outcome("(if true 1 open)")[0], "value")
        self.assertEqual(outcome("(case (tag l 1) (m x open) (l x x) (else z open))")[0], "value")
        self.assertEqual(outcome("(match 1 (2 open) (1 1) (_ open))")[0], "value")
        self.assertEqual(outcome("(let f (fn x open) 1)")[0], "value")

    def test_cells_tell_the_order(self):
        note = "(let c (cell int 0) (let n (fn k (let x (write c (+ (+ (read c) (read c)) k)) 3)) (let x {} (read c))))"
        self.assertEqual(outcome(note.format("(+ (app n 1) (app n 0))"))[1], number(2))
        self.assertEqual(outcome(note.format("(extend l (app n 1) (record (m (app n 0)) (k (app n 0))))"))[1], number(4))
        self.assertEqual(outcome(note.format("(record (m (app n 1)) (l (app n 0)))"))[1], number(2))


class Stuck(unittest.TestCase):
    """13.6: each way, with the node and the calls."""

    def stuck(self, text, word, calls=0, which=0):
        p = program(text)
        nodes = [n[1] for n in all_nodes(p) if n[0] == word]
        self.assertEqual(run(p), ("stuck", nodes[which], calls), text)

    def test_each_way(self):
        call = "(let i (fn x x) {})"
        self.stuck("x", "name")
        self.stuck("(app 1 2)", "app")
        self.stuck("(app (app (fn x x) 1) 2)", "app", 1)
        self.stuck("(if 1 2 3)", "if")
        self.stuck("(if (record) 2 3)", "if")
        for sides in ("1 true", "true 1", "(fn x x) 1", "1 (tuple 1 2)", "true true"):
            for sign in "+-<=":
                self.stuck(f"({sign} {sides})", "op")
        for worth in ("1", "(tag l 1)", "(make l 1)", "(record (m 1))", "(record)", "(tuple 1 2)", "(cell int 1)", "(fn x x)"):
            self.stuck(f"(get l {worth})", "get")
            self.stuck(f"(update l 1 {worth})", "update")
            self.stuck(f"(without l {worth})", "without")
        for worth in ("1", "(tag m 1)", "(record (l 1))", "(fn x x)"):
            self.stuck(f"(extend l 1 {worth})", "extend")
        self.stuck("(record (l 1) (m 2) (l 3))", "record")
        for worth in ("1", "(make l 1)", "(record (l 1))", "(tag n 1)"):
            self.stuck(f"(case {worth} (l x 1) (m x 2))", "case")
        self.stuck("(case 1 (l x 1) (else z 2))", "case")
        for worth in ("1", "true", "(tuple 1 2)", "(record (l 1))", "(make c true)", "(fn x x)", "(tag c 1)"):
            self.stuck(f"(match {worth} (2 1) (false 2) ((tuple 1 1) 3) ((record (m _)) 4) ((make c 1) 5) ((make d _) 6) ((tuple _ _ _) 7))", "match")
        self.stuck("(read 1)", "read")
        self.stuck("(read (record))", "read")
        self.stuck("(write 1 2)", "write")
        self.stuck(call.format("(tuple (app i 1) (app i 2) (app i (read 3)))"), "read", 2)
        self.stuck(call.format("(write (app i 1) (app i 2))"), "write", 2)
        self.stuck(call.format("(app 1 (app i 2))"), "app", 1)
        self.stuck(call.format("(record (l (app i 1)) (l (app i 2)))"), "record", 2)
        self.stuck(call.format("(match (app i 1) (0 1))"), "match", 1)

    def test_match_without_arms(self):
        self.assertEqual(run(("program", 0, (), ("match", 7, ("number", 9, 1), ()))), ("stuck", 7, 0))

    def test_members(self):
        self.stuck("(member m x)", "member")
        self.stuck("(program (module m (struct (def x 1))) (main (member m y)))", "member")
        self.stuck("(program (module m (struct (alias y int))) (main (member m y)))", "member")
        self.stuck("(program (def m 1) (main (member m m)))", "member")
        self.stuck("(program (sig s) (functor m (x s) ((def y 1)) ()) (main (member m y)))", "member")
        self.stuck("(program (sig s) (functor m (x s) ((def y 1)) ()) (main (member x y)))", "member")
        self.stuck("(program (def f (fn y (member m x))) (module m (struct (def x 1))) (main (app f 1)))", "member", 1)
        self.assertEqual(outcome("(program (module m (struct (def x 1) (defrec (f (fn y y)) (g (fn y x))))) (main (tuple (member m x) (member m f) (app (member m g) 0))))"),
                         ("value", ("tuple", (number(1), FN, number(1))), 1))

    def test_apply(self):
        self.stuck("(program (module m (apply f n)) (main 1))", "apply")
        self.stuck("(program (module n (struct)) (module m (apply n n)) (main 1))", "apply")
        self.stuck("(program (sig s) (functor f (x s) () ()) (module m (apply f f)) (main 1))", "apply")
        self.stuck("(program (sig s) (functor f (x s) () ()) (module m (apply f x)) (main 1))", "apply")
        self.stuck("(program (sig s) (module m (apply f m)) (functor f (x s) () ()) (main 1))", "apply")


class Groups(unittest.TestCase):
    """13.5."""

    def test_groups(self):
        self.assertEqual(outcome("(program (defrec (f (fn n (if (= n 0) true (app g (- n 1))))) (g (fn n (if (= n 0) false (app f (- n 1)))))) (main (tuple (app f 4) (app f 5))))"),
                         ("value", ("tuple", (YES, NO)), 11))
        self.assertEqual(outcome("(rec ((f (fn n (if (= n 0) 7 (app f (- n 1)))))) (app f 3))"), ("value", number(7), 4))
        # A name that stands twice: the last one hides the first.
        self.assertEqual(outcome("(rec ((f (fn x 1)) (f (fn x 2)) (g (fn x (app f x)))) (app g 0))"), ("value", number(2), 2))
        self.assertEqual(outcome("(rec ((f (mark 1 (mark 2 (fn x 3))))) (app f 0))"), ("value", number(3), 1))
        # What is hidden outside is seen by no function of the group.
        self.assertEqual(outcome("(let f 1 (rec ((g (fn x f)) (f (fn x 2))) (app g 0)))"), ("value", FN, 1))

    def test_holes_and_other_sides(self):
        for word, calls in (("rec", 0), ("defrec", 0)):
            for sides, wanted in (("(f hole)", "hole"), ("(f (fn x x)) (g hole)", "hole"), ("(f (mark 1 hole)) (g 1)", "hole"), ("(f 1) (g hole)", "stuck"),
                                  ("(f (fn x x)) (g (app 1 2))", "stuck"), ("(f (is (fn x x) int))", "stuck"), ("(f (let x hole (fn y y)))", "stuck")):
                text = f"(rec ({sides}) 1)" if word == "rec" else f"(program (defrec {sides}) (main 1))"
                p = program(text)
                number_there = [n[1] for n in all_nodes(p) if n[0] == (word if wanted == "stuck" else "hole")][0]
                self.assertEqual(run(p), (wanted, number_there, calls), text)


class Fuel(unittest.TestCase):
    """13.2."""

    def test_fuel(self):
        p = program("(app (fn x x) 1)")
        self.assertEqual(run(p, 0), ("fuel", None, 0))
        self.assertEqual(run(p, fuel=1), ("value", number(1), 1))
        self.assertEqual(run(program("1"), 0), ("value", number(1), 0))
        self.assertEqual(run(program("(app 1 2)"), 0), ("stuck", 1, 0))
        self.assertEqual(run(program("(app (fn x x) hole)"), 0), ("hole", 4, 0))
        # Making a module of a functor is no call.
        self.assertEqual(run(program("(program (sig s) (functor f (x s) ((def y 1)) ()) (module n (struct)) (module m (apply f n)) (main (member m y)))"), 0),
                         ("value", number(1), 0))

    def test_just_enough(self):
        for many in (1, 5, 399, 400, 1999):
            p = program(f"(program {LOOP} (main (app f {many - 1})))")
            self.assertEqual(run(p, many), ("value", number(many - 1), many))
            self.assertEqual(run(p, many - 1), ("fuel", None, many - 1))
        self.assertEqual(run(program(f"(program {LOOP} (main (app f 399)))")), ("value", number(399), 400))
        self.assertEqual(run(program(f"(program {LOOP} (main (app f 400)))")), ("fuel", None, 400))

    def test_calls_within_one_another(self):
        start = time.time()
        for loop, told in ((LOOP, 1999), (TAIL, 0)):
            self.assertEqual(run(program(f"(program {loop} (main (app f 1999)))"), 2000), ("value", number(told), 2000))
            self.assertEqual(run(program(f"(program {loop} (main (app f 2000)))"), 2000), ("fuel", None, 2000))
        built = "(program (defrec (f (fn n (if (< n 1) (make nil 0) (make cons (tuple n (app f (- n 1)))))))) (main (app f 1999)))"
        told = run(program(built), 2000)
        self.assertEqual((told[0], told[2], str(told[1]).count("deep")), ("value", 2000, 1))
        self.assertEqual(run(program("(app (fn x (app x x)) (fn x (app x x)))"), 2000), ("fuel", None, 2000))
        self.assertLess(time.time() - start, 5)


    def test_deep_trees(self):
        node = ("name", 1, "x")
        for k in range(58):
            number_here = 10 * k + 10
            node = [("op", number_here, "+", node, ("number", number_here + 1, 1)), ("let", number_here, "x", ("number", number_here + 1, k), node),
                    ("choose", number_here, "ABC"[k % 2], node, ("hole", number_here + 1)), ("get", number_here, "l", ("record", number_here + 1, (("l", node),)))][k % 4]
        p = ("program", 0, (), node)
        m = Machine(p)
        m.settle("A", True)
        m.settle("B", True)
        m.advance()
        self.assertEqual(m.outcome, plain_run(chosen(p, "AB")))
        self.assertEqual(m.outcome[0], "value")


class Declarations(unittest.TestCase):
    """13.1 and 13.7."""

    def test_names(self):
        self.assertEqual(outcome("(program (def x 1) (def f (fn y x)) (def x 2) (main (tuple x (app f 0))))")[1], ("tuple", (number(2), number(1))))
        self.assertEqual(outcome("(program (def x 1) (module m (struct (def y x) (def x 2) (def z x) (def x 3))) (main (tuple x (member m y) (member m z) (member m x))))")[1],
                         ("tuple", (number(1), number(1), number(2), number(3))))
        self.assertEqual(outcome("(program (module m (struct (def y 1))) (main y))"), ("stuck", 5, 0))
        self.assertEqual(outcome("(program (module m (struct (def y 1))) (module m (struct (def y 2))) (main (member m y)))")[1], number(2))
        self.assertEqual(outcome("(program (module m (struct (def x 1))) (module n (struct (def y (member m x)) (def x 2))) (main (tuple (member n y) (member n x))))")[1],
                         ("tuple", (number(1), number(2))))

    def test_what_means_nothing(self):
        self.assertEqual(outcome("(program (data d (a a) (c (of nodata))) (sig s (val x () u) (hide x)) (module m (struct (alias t (from q t)) (def x 1)) nosig) (main (member m x)))"),
                         ("value", number(1), 0))
        # A seal hides nothing from the machine.
        self.assertEqual(outcome("(program (sig s) (module m (struct (def x 1)) s) (main (member m x)))")[1], number(1))
        self.assertEqual(outcome("(is (cell (of no) true) (from m t))")[1], ("cell", YES))

    def test_functors(self):
        text = """(program (sig s) (def k 1) (functor f (x s) ((def c (cell int (member x v))) (def y k)) ()) (def k 2)
            (module n (struct (def v 10))) (module x (struct (def v 20))) (module a (apply f n)) (module b (apply f n)) (module d (apply f x))
            (main (let u (write (member a c) 5) (tuple (member a c) (member b c) (member d c) (member a y)))))"""
        self.assertEqual(outcome(text), ("value", ("tuple", (("cell", number(5)), ("cell", number(10)), ("cell", number(20)), number(1))), 0))
        # A functor and a module of one name; a parameter that hides a module.
        text = """(program (sig s) (module m (struct (def v 1))) (functor m (m s) ((def w (member m v))) ())
            (module n (struct (def v 2))) (module o (apply m n)) (main (tuple (member o w) (member m v))))"""
        self.assertEqual(outcome(text)[1], ("tuple", (number(2), number(1))))
        text = "(program (sig s) (functor f (x s) ((def y (member x v)) (def z hole)) ()) (main 1))"
        self.assertEqual(outcome(text)[1], number(1))
        text = "(program (sig s) (functor f (x s) ((def y (member x v))) ()) (module n (struct)) (module m (apply f n)) (main 1))"
        self.assertEqual(outcome(text)[0], "stuck")

    def test_programs_that_are_refused(self):
        self.assertEqual(outcome("(if true 1 (+ true nothing))"), ("value", number(1), 0))
        self.assertEqual(outcome("(let f (fn x x) (tuple (app f f) (tuple 1 (app f true))))")[2], 2)


class Choices(unittest.TestCase):
    """13.8."""

    def undecided(self, p, fuel=400):
        with self.assertRaises(Undecided) as caught:
            run(p, fuel)
        self.assertIsInstance(caught.exception, ArmError)
        return caught.exception.switch

    def test_run(self):
        self.assertEqual(self.undecided(program("(choose Ab 1 2)")), "Ab")
        self.assertEqual(self.undecided(program("(tuple (choose B 1 2) (choose A 1 2))")), "B")
        self.assertEqual(self.undecided(program("(rec ((f (mark 1 (choose C (fn x x) 1)))) 2)")), "C")
        self.assertEqual(self.undecided(program("(program (when D ((def x 1)) ()) (main 1))")), "D")
        for text in ("(if true 1 (choose A 1 2))", "(let f (fn x (choose A 1 2)) 3)", "(case (tag l 1) (l x x) (else z (choose A 1 2)))"):
            self.assertEqual(outcome(text)[0], "value")
        # Stuck, a hole or the end of the fuel may come before a choice.
        self.assertEqual(outcome("(tuple x (choose A 1 2))"), ("stuck", 2, 0))
        self.assertEqual(outcome("(tuple hole (choose A 1 2))"), ("hole", 2, 0))
        self.assertEqual(outcome("(tuple (app (fn x x) 1) (choose A 1 2))", 0), ("fuel", None, 0))

    def test_machine_at_the_beginning(self):
        p = program("(choose A 1 2)")
        m = Machine(p)
        self.assertEqual((m.outcome, m.waiting, m.decided), (None, None, ()))
        self.assertIsNone(m.advance())
        self.assertEqual((m.outcome, m.waiting, m.decided), (None, "A", ()))
        self.assertIsNone(m.advance())
        self.assertEqual((m.outcome, m.waiting, m.decided), (None, "A", ()))
        self.assertIsNone(m.settle("A", False))
        self.assertEqual((m.outcome, m.waiting, m.decided), (None, None, (("A", False),)))
        m.advance()
        self.assertEqual((m.outcome, m.waiting), (("value", number(2), 0), None))
        m.advance()
        m.settle("Z", True)
        m.settle("A", True)
        self.assertEqual((m.outcome, m.waiting, m.decided), (("value", number(2), 0), None, (("A", False), ("Z", True))))

    def test_settling(self):
        p = program("(tuple (choose B 1 2) (choose A (choose B 3 4) 5) (choose C 6 7))")
        m = Machine(p, fuel=3)
        m.settle("B", True)
        m.settle("Q", False)
        m.settle("B", False)
        self.assertEqual(m.decided, (("B", True), ("Q", False)))
        m.advance()
        self.assertEqual(m.waiting, "A")
        m.settle("C", False)
        self.assertEqual(m.waiting, "A")
        m.settle("A", True)
        self.assertIsNone(m.waiting)
        m.advance()
        self.assertEqual(m.outcome, ("value", ("tuple", (number(1), number(3), number(7))), 0))
        self.assertEqual(m.decided, (("A", True), ("B", True), ("C", False), ("Q", False)))

    def test_twins(self):
        text = "(let c (cell int 1) (let x (write c 2) (let y (write c (choose A (+ (read c) 10) (choose B 5 6))) (let z (if (choose C true false) (write c (+ (read c) 1)) 0) (tuple (read c) c)))))"
        m = Machine(program(text))
        m.advance()
        t = m.twin()
        self.assertIsInstance(t, Machine)
        self.assertEqual((t.waiting, t.decided, t.outcome), ("A", (), None))
        m.settle("A", True)
        self.assertEqual((t.waiting, t.decided), ("A", ()))
        m.advance()
        t.settle("A", False)
        t.advance()
        self.assertEqual((m.waiting, t.waiting), ("C", "B"))
        u = t.twin()
        for one, b in ((t, True), (u, False)):
            one.settle("B", b)
            one.advance()
            self.assertEqual(one.waiting, "C")
        u2 = u.twin()
        for one, c, told in ((m, True, 13), (t, True, 6), (u, False, 6), (u2, True, 7)):
            one.settle("C", c)
            one.advance()
            self.assertEqual(one.outcome, ("value", ("tuple", (number(told), ("cell", number(told)))), 0))
        after = u.twin()
        after.settle("D", True)
        self.assertEqual((after.outcome, u.decided), (u.outcome, (("A", False), ("B", False), ("C", False))))

    def test_calls_and_fuel_of_twins(self):
        m = Machine(program("(let i (fn x x) (tuple (app i 1) (choose A (app i 2) 3) (app i 4)))"), 2)
        m.advance()
        t = m.twin()
        for one, on in ((m, True), (t, False)):
            one.settle("A", on)
            one.advance()
        self.assertEqual(m.outcome, ("fuel", None, 2))
        self.assertEqual(t.outcome, ("value", ("tuple", (number(1), number(3), number(4))), 2))


class Random(unittest.TestCase):
    def compare(self, tree, seen):
        before = copy.deepcopy(tree)
        switches = switches_in(tree)
        for setting in every_setting(switches):
            one = chosen(tree, setting)
            for fuel in (0, 2, 30):
                wanted = plain_run(one, fuel)
                self.assertEqual(run(one, fuel), wanted)
                self.check_machine(tree, setting, fuel, wanted)
                seen.add(wanted[0])
            kind = wanted[0] if wanted[0] != "stuck" else next(n[0] for n in all_nodes(one) if n[1] == wanted[1])
            seen.add(kind)
        try:
            told = run(tree, 30)
        except Undecided as error:
            self.assertIn(error.switch, switches)
        else:
            for setting in every_setting(switches):
                self.assertEqual(told, plain_run(chosen(tree, setting), 30))
        self.assertEqual(tree, before)

    def check_machine(self, tree, setting, fuel, wanted):
        """A machine that is settled as it asks, some switches before."""
        m = Machine(tree, fuel)
        early = switches_in(tree)[fuel % 2::2]
        for switch in early:
            m.settle(switch, switch in setting)
        steps = 0
        while m.outcome is None:
            m.advance()
            if m.waiting is not None:
                self.assertNotIn(m.waiting, dict(m.decided))
                self.assertIn(m.waiting, switches_in(tree))
                m = m.twin()
                m.settle(m.waiting, m.waiting in setting)
            steps += 1
        self.assertLessEqual(steps, 10)
        self.assertEqual(m.outcome, wanted)
        self.assertIsNone(m.waiting)

    def test_programs(self):
        seen = set()
        for seed in range(MANY // 2):
            chance = random.Random(seed)
            self.compare(Programs(chance, ("A", "B", "C")[:seed % 4], chance.choice([(), (1, 2)]), chance.choice([0.0, 0.02, 0.1]),
                                  chance.choice([0.1, 0.2]), seed % 3 > 0).program(chance.randint(0, 9), chance.randint(2, 5)), seen)
        self.assertTrue({"value", "hole", "stuck", "fuel"} <= seen)

    def test_bare_terms(self):
        seen = set()
        for seed in range(2 * MANY):
            self.compare(BareTerms(random.Random(seed), ((), ("A",), ("A", "B"))[seed % 3], (1, 2)[:seed % 4]).program(), seen)
        self.assertTrue({"value", "hole", "fuel", "app", "if", "get", "extend", "update", "without", "case", "match", "read", "write"} <= seen, seen)

    def test_programs_without_sense(self):
        seen = set()
        for seed in range(MANY):
            self.compare(Trees(random.Random(seed)).program(seed % 6, 4), seen)
        self.assertTrue({"member", "apply", "defrec", "name"} <= seen, seen)

    def test_places(self):
        self.compare(PLACES, set())


if __name__ == "__main__":
    unittest.main()
