"""Part 10: what declarations, signatures, modules and functors mean for the check."""

import unittest

from eacharm.checking import check
from eacharm.reader import read_program
from eacharm.tables import value_at
from eacharm.terms import scheme_text

A_ON, A_OFF = ("A", True, False), ("A", False, True)


def told(text):
    """The text of main's scheme, or the stage of refusal."""
    found = check(read_program(text))
    stage = value_at(found.stages, ())
    return stage if stage in ("names", "types") else scheme_text(value_at(found.schemes, ()))[8:-1]


class Rows(unittest.TestCase):
    def rows(self, before, rows):
        for text, wanted in rows:
            if not text.startswith("("):
                text = f"(main {text})"
            elif not any(text.startswith(f"({word} ") for word in ("main", "module", "def", "functor", "sig", "when")):
                text = f"(main {text})"
            elif "(main " not in text:
                text = f"{text} (main 0)"
            self.assertEqual(told(f"(program {before} {text})"), wanted, text)


class Written(Rows):
    def test_written_types(self):
        self.rows("(data d (p q) (c (tuple p q p)))", [
            ("(is hole (of d int bool))", "(of d int bool)"), ("(make c (tuple 1 true 2))", "(of d int bool)"),
            ("(make c (tuple 1 true false))", "types"), ("(make c hole)", "(of d ?0 ?1)"),
            ("(fn x (make c (tuple x x x)))", "(to ?0 (of d ?0 ?0))")])

    def test_two_data_are_the_same_by_name_and_terms(self):
        self.rows("(data d (p) (c p)) (data e (p) (f p))", [
            ("(if true (make c 1) (make c 2))", "(of d int)"), ("(if true (make c 1) (make c true))", "types"),
            ("(if true (make c 1) (make f 1))", "types")])

    def test_fields_in_label_order(self):
        self.assertEqual(told("(program (main (is hole (record (m int) (a bool) (l int)))))"), "(record (a bool) (l int) (m int))")


class Structs(Rows):
    STRUCT = "(module m (struct (alias t int) (def x 3) (def id (fn y y)) (defrec (f (fn y (app f y)))) (alias u (to t t))))"

    def test_members_at_several_types(self):
        self.rows(self.STRUCT, [
            ("(tuple (app (member m id) 1) (app (member m id) true))", "(tuple int bool)"), ("(member m f)", "(to ?0 ?1)"),
            ("(member m x)", "int"), ("(is (member m id) (from m u))", "(to int int)"), ("(is (member m x) (from m t))", "int"),
            ("(is true (from m t))", "types"), ("(if (member m x) 1 2)", "types")])

    def test_inside(self):
        self.rows("(def x true)", [
            ("(module m (struct (def y (if x 1 2)) (def x 1) (def z (+ x y)))) (main (if x (member m z) 0))", "int"),
            ("(module m (struct (alias t int) (def y (is 1 t)) (when A ((def w 1)) ()))) (main (member m y))", "int"),
            ("(module m (struct (def y (+ x 1))))", "types")])


class Seals(Rows):
    def test_met_and_not_met(self):
        for items, rows, good in [
                ("(val x () int)", "(def x 1)", True), ("(val x () bool)", "(def x 1)", False),
                ("(val x () int)", "(def x 1) (def y true) (alias t int)", True),
                ("(val f () (to int int))", "(def f (fn x x))", True), ("(val f (a) (to a a))", "(def f (fn x x))", True),
                ("(val f (a) (to a a))", "(def f (fn x (+ x 1)))", False), ("(val f (a b) (to a b))", "(def f (fn x x))", False),
                ("(val f (a b) (to a b))", "(defrec (f (fn x (app f x))))", True), ("(val f (a b) (to a b))", "(def f hole)", True),
                ("(val f (a) (to a int))", "(def f (fn x 1))", True), ("(val f (a b) (to a (to b a)))", "(def f (fn x (fn y x)))", True),
                ("(val f (a b) (to a (to b b)))", "(def f (fn x (fn y x)))", False),
                ("(val f () (to (record (l int) (m bool)) int))", "(def f (fn r (get l r)))", True),
                ("(val f () (to (record (m bool)) int))", "(def f (fn r (get l r)))", False),
                ("(val f () (to (record (l int)) (record (l int))))", "(def f (fn r (extend l 1 r)))", False),
                ("(val f () (to (record) (record (l int))))", "(def f (fn r (extend l 1 r)))", True),
                ("(val v () (tags (l int) (m bool)))", "(def v (tag l 1))", True), ("(val v () (tags (m bool)))", "(def v (tag l 1))", False),
                ("(hide t) (val x () t)", "(alias t int) (def x 1)", True), ("(hide t) (val x () t)", "(alias t bool) (def x 1)", False),
                ("(hide t) (val x (a) (to a t))", "(alias t int) (def x (fn y y))", False),
                ("(hide t) (val f (t) (to t t))", "(alias t int) (def f (fn x x))", True),
                ("(hide t) (val f (t) (to t t))", "(alias t int) (def f (fn x (+ x 1)))", False),
                ("(hide t) (val y () t) (hide u) (val x () (tuple t u))", "(def x (tuple 1 true)) (alias u bool) (alias t int) (def y 2)", True),
                ("(val x () (of d int))", "(def x (make c 1))", True), ("(val x () (of d bool))", "(def x (make c 1))", False)]:
            text = f"(program (data d (p) (c p)) (sig s {items}) (module m (struct {rows}) s) (main 0))"
            self.assertEqual(told(text), "int" if good else "types", text)

    SIG = "(sig s (hide t) (val x () t) (val f () (to t int)) (val g () (to int t)) (val id (a) (to a (tuple a t))))"
    BODY = "(struct (alias t int) (def x 3) (def f (fn y (+ y 1))) (def g (fn y y)) (def id (fn y (tuple y x))) (def z 1))"

    def test_hidden_types_are_kept_apart(self):
        self.rows(f"{self.SIG} (module m {self.BODY} s) (module n {self.BODY} s)", [
            ("(member m x)", "(from m t)"), ("(+ (member m x) 1)", "types"), ("(+ (app (member m f) (member m x)) 1)", "int"),
            ("(app (member m f) 1)", "types"), ("(app (member m f) (app (member m g) 1))", "int"),
            ("(app (member m f) (member n x))", "types"), ("(is (member m x) (from m t))", "(from m t)"),
            ("(is (member m x) (from n t))", "types"), ("(is (member m x) int)", "types"), ("(is 1 (from m t))", "types"),
            ("(if true (member m x) (member m x))", "(from m t)"), ("(if true (member m x) (member n x))", "types"),
            ("(tuple (app (member m id) 1) (app (member m id) true))", "(tuple (tuple int (from m t)) (tuple bool (from m t)))"),
            ("(member m z)", "names"), ("(cell (from m t) (member m x))", "(cell (from m t))")])

    def test_data_and_defs_with_hidden_types(self):
        self.rows(f"{self.SIG} (module m {self.BODY} s) (data d () (c (from m t))) (def y (member m x))", [
            ("(make c (member m x))", "(of d)"), ("(make c 1)", "types"), ("(make c y)", "(of d)")])

    def test_aliases_of_structs_are_seen_through(self):
        self.rows("(module m (struct (alias t int) (alias u (tuple t bool)) (def x (tuple 1 true))))", [
            ("(is (member m x) (from m u))", "(tuple int bool)"), ("(is (tuple 1 true) (tuple (from m t) bool))", "(tuple int bool)")])

    def test_stones_of_unlike_letters(self):
        self.assertEqual(told("(program (sig s (val f (a) (to a a)) (val g (a) (to a a))) (module m (struct (def f (fn x x)) (def g f)) s) (main 0))"), "int")

    def test_a_faulty_body_refuses_the_program(self):
        self.assertEqual(told("(program (sig s) (module m (struct (def x (+ 1 true))) s) (main 0))"), "types")


class Functors(Rows):
    SIGS = "(sig s (hide t) (val x () t) (val f () (to t int)))"
    FUNCTOR = """(functor fu (p s) ((alias r (tuple (from p t) int)) (def y (tuple (member p x) 1)) (def k (fn z z)))
        ((hide r) (val y () r) (val k () (to (from p t) (from p t))) (val get () (to r int))))"""
    GOOD = """(functor fu (p s) ((alias r (tuple (from p t) int)) (def y (tuple (member p x) 1)) (def k (fn z z))
        (def get (fn q (match q ((tuple a b) (+ (app (member p f) a) b))))))
        ((hide r) (val y () r) (val k () (to (from p t) (from p t))) (val get () (to r int))))"""
    STRUCT = "(struct (alias t bool) (def x true) (def f (fn b (if b 1 0))))"

    def test_a_functor_that_nobody_applies(self):
        self.rows(self.SIGS, [(f"{self.GOOD}", "int"), (f"{self.FUNCTOR}", "names"),
                              ("(functor g (p s) ((def y (+ (member p x) 1))) ())", "types"),
                              ("(functor g (p s) ((def y (+ (app (member p f) (member p x)) 1))) ((val y () int)))", "int"),
                              ("(functor g (p s) ((def y 1)) ((val y () bool)))", "types"),
                              ("(functor g (p s) ((def y (member p x))) ((val y () (from p t))))", "int"),
                              ("(functor g (p s) ((def y (member p x))) ((hide t) (val y () t)))", "names"),
                              ("(functor g (p s) ((alias t (from p t)) (def y (member p x))) ((hide t) (val y () t)))", "int"),
                              ("(functor g (p s) ((alias t int) (def y (member p x))) ((hide t) (val y () t)))", "types"),
                              ("(functor g (p s) ((def y (fn a (member p x)))) ((val y (a) (to a (from p t)))))", "int"),
                              ("(functor g (p s) ((def y (is (member p x) (from p t)))) ())", "int")])

    def test_the_parameter_is_sealed(self):
        self.rows(self.SIGS, [("(functor g (p s) ((def y (if (member p x) 1 0))) ()) (module m (struct (alias t bool) (def x true) (def f (fn b 1)))) (module n (apply g m))", "types")])

    def test_applied(self):
        before = f"{self.SIGS} {self.GOOD} (module n {self.STRUCT}) (module o {self.STRUCT} s)"
        self.rows(f"{before} (module m (apply fu n)) (module q (apply fu n)) (module w (apply fu o))", [
            ("(member m y)", "(from m r)"), ("(app (member m get) (member m y))", "int"), ("(member m k)", "(to bool bool)"),
            ("(app (member m k) true)", "bool"), ("(app (member m k) 1)", "types"),
            # A functor that is applied twice to the same module gives unlike types.
            ("(app (member m get) (member q y))", "types"), ("(if true (member m y) (member q y))", "types"),
            ("(if true (member m k) (member q k))", "(to bool bool)"), ("(is (member m y) (from m r))", "(from m r)"),
            ("(is (member m y) (from q r))", "types"), ("(is (member m y) (tuple bool int))", "types"),
            # For a sealed argument its types stay hidden.
            ("(member w k)", "(to (from o t) (from o t))"), ("(app (member w k) (member o x))", "(from o t)"),
            ("(app (member w k) true)", "types"), ("(if true (member m k) (member w k))", "types")])

    def test_arguments_must_meet_the_signature(self):
        before = f"{self.SIGS} {self.GOOD}"
        self.rows(before, [
            ("(module n (struct (alias t bool) (def x 1) (def f (fn b 1)))) (module m (apply fu n))", "types"),
            ("(module n (struct (alias t bool) (def x true) (def f (fn b b)))) (module m (apply fu n))", "types"),
            ("(module n (struct (alias t bool) (def x true) (def f (fn b 1)))) (module m (apply fu n))", "int"),
            ("(sig u (hide t) (val x () t) (val f () (to bool int))) (module n (struct (alias t bool) (def x true) (def f (fn b 1))) u) (module m (apply fu n))", "types"),
            ("(sig u (hide t) (val x () t) (val f () (to t int)) (val z () int)) (module n (struct (alias t bool) (def x true) (def z 1) (def f (fn b 1))) u) (module m (apply fu n)) (main (member m k))",
             "(to (from n t) (from n t))")])

    def test_a_functor_of_an_applied_functor(self):
        text = f"{self.SIGS} (functor g (p s) ((alias t (tuple (from p t) int)) (def x (tuple (member p x) 1)) (def f (fn q 1))) ((hide t) (val x () t) (val f () (to t int)) (val o () int)))"
        text = text.replace("(def f (fn q 1))", "(def f (fn q 1)) (def o 1)")
        text += f"(module n {self.STRUCT}) (module a (apply g n)) (module b (apply g a))"
        self.rows(text, [("(member b x)", "(from b t)"), ("(app (member b f) (member a x))", "types"),
                         ("(app (member a f) (member a x))", "int"), ("(app (member b f) (member b x))", "int")])

    def test_a_seal_over_an_apply(self):
        before = f"{self.SIGS} {self.GOOD} (module n {self.STRUCT}) (sig u (hide r) (val y () r)) (sig v (val y () int)) (sig w (val k () (to bool bool))) (sig z (hide r) (val get () (to r int)) (val y () r))"
        self.rows(before, [
            ("(module m (apply fu n) u) (main (member m y))", "(from m r)"), ("(module m (apply fu n) u) (main (member m k))", "names"),
            ("(module m (apply fu n) v)", "types"), ("(module m (apply fu n) w) (main (member m k))", "(to bool bool)"),
            ("(module m (apply fu n) w) (main (is 1 (from m r)))", "names"),
            ("(module m (apply fu n) z) (main (app (member m get) (member m y)))", "int")])

    def test_letters_of_items(self):
        self.rows("(sig s (val id (a) (to a a))) (functor g (p s) ((def two (fn x (app (member p id) x))) (def pair (tuple (app (member p id) 1) (app (member p id) true)))) ((val two (b) (to b b)) (val pair () (tuple int bool)))) (module n (struct (def id (fn x x)))) (module m (apply g n))", [
            ("(tuple (app (member m two) 1) (app (member m two) true))", "(tuple int bool)"), ("(member m two)", "(to ?0 ?0)"),
            ("(member m pair)", "(tuple int bool)")])


class Choices(Rows):
    def stages(self, text):
        return check(read_program(text)).stages

    def test_bodies(self):
        text = "(program (sig s (val x () int)) (functor f (p s) ((def x true)) ((val x () bool))) (module n (struct (def x 1))) (module m (choose A (apply f n) (struct (def x 5)))) (main (member m x)))"
        self.assertEqual(check(read_program(text)).schemes, ((A_OFF, (("int",), ())), (A_ON, (("bool",), ()))))

    def test_rows_under_when(self):
        text = "(program (module m (struct (when A ((def x 1) (alias t int)) ((alias t bool) (def x true))))) (main (is (member m x) (from m t))))"
        self.assertEqual(check(read_program(text)).schemes, ((A_OFF, (("bool",), ())), (A_ON, (("int",), ()))))
        text = "(program (sig s (hide t) (when A ((val x () t)) ((val x () int)))) (module m (struct (alias t bool) (def x 1)) s) (main (member m x)))"
        self.assertEqual(self.stages(text), ((A_OFF, "fits"), (A_ON, "types")))
        text = "(program (sig s (val x () (choose A int bool))) (module m (struct (def x (choose B 1 true))) s) (main (member m x)))"
        self.assertEqual({k: value_at(self.stages(text), k) for k in ((), ("A",), ("B",), ("A", "B"))},
                         {(): "fits", ("A",): "types", ("B",): "types", ("A", "B"): "fits"})

    def test_seals_and_functors_under_when(self):
        text = "(program (when A ((sig s (val x () int))) ((sig s (val x () bool)))) (module m (struct (def x 1)) s) (main (member m x)))"
        self.assertEqual(self.stages(text), ((A_OFF, "types"), (A_ON, "fits")))
        text = """(program (sig s (hide t) (val x () t)) (when A ((functor f (p s) ((def y 1)) ((val y () int))))
            ((functor f (q s) ((alias u (from q t)) (def y (member q x))) ((hide u) (val y () (choose B u (from q t)))))))
            (module n (struct (alias t bool) (def x true))) (module m (apply f n)) (main (member m y)))"""
        c = check(read_program(text))
        self.assertEqual({k: value_at(c.schemes, k)[0] for k in ((), ("A",), ("B",), ("A", "B"))},
                         {(): ("bool",), ("A",): ("int",), ("B",): ("hidden", "m", "u"), ("A", "B"): ("int",)})

    def test_a_module_under_when(self):
        text = "(program (sig s (hide t) (val x () t)) (when A ((module m (struct (alias t int) (def x 1)) s)) ((module m (struct (alias t int) (def x 1))))) (main (+ (member m x) 1)))"
        self.assertEqual(self.stages(text), ((A_OFF, "fits"), (A_ON, "types")))

    def test_marks_in_structs(self):
        c = check(read_program("(program (sig s (val x () int)) (module m (struct (def x (mark 1 true))) s) (main 0))"))
        self.assertEqual(c.typable, ("m1", False, True))


if __name__ == "__main__":
    unittest.main()
