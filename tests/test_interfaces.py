"""[10.8], [10.9]: what modules tell, as tables."""

import copy
import random
import unittest

from eacharm.checking import check
from eacharm.choosing import chosen, kept_only
from eacharm.interfaces import hides_of, members_of
from eacharm.reader import read_program
from eacharm.tables import value_at
from eacharm.terms import scheme_text, term_text
from eacharm.trees import all_nodes
from plaintypes import PlainTypes
from programs import Programs
from samples import Trees
from settings import every_setting, table_faults

A_ON, A_OFF = ("A", True, False), ("A", False, True)
SIG = "(sig s (hide t) (val x () t) (val f (a) (to a (tuple a t))))"
BODY = "(struct (alias t int) (def x 3) (def f (fn y (tuple y x))) (def z 1))"


def members(text, module="m"):
    """The members and their tables, with the texts of the schemes."""
    found = members_of(check(read_program(text)), module)
    return {name: tuple((c, scheme_text(s)[8:-1]) for c, s in table) for name, table in found}


def hides(text, module="m"):
    found = hides_of(check(read_program(text)), module)
    return {name: tuple((c, term_text(t)) for c, t in table) for name, table in found}


def always(**rows):
    return {name: ((True, text),) for name, text in rows.items()}


class Examples(unittest.TestCase):
    def test_examples(self):
        p = read_program(f"(program {SIG} (module m {BODY.replace(' (def z 1)', '')} s) (main 0))")
        self.assertEqual(members_of(check(p), "m"), (
            ("f", ((True, (("arrow", ("letter", 0), ("tuple", (("letter", 0), ("hidden", "m", "t")))), ())),)),
            ("x", ((True, (("hidden", "m", "t"), ())),))))
        p = read_program("(program (module m (struct (when A ((alias t int)) ()) (def x 3))) (main 0))")
        self.assertEqual(hides_of(check(p), "m"), (("t", ((A_ON, ("int",)),)),))


class Modules(unittest.TestCase):
    def test_structs(self):
        text = "(program (module m (struct (alias u bool) (def x 3) (defrec (g (fn y (app h y))) (h (fn y 1))) (alias t (to u int)) (def r (fn q (get l q))))) (main 0))"
        self.assertEqual(members(text), always(g="(to ?0 int)", h="(to ?0 int)", x="int", r="(to (record (l ?0) | ?1) ?0) (lacks 1 l)"))
        self.assertEqual(hides(text), always(t="(to bool int)", u="bool"))
        self.assertEqual(list(members(text)), ["g", "h", "r", "x"])
        self.assertEqual(list(hides(text)), ["t", "u"])

    def test_seals(self):
        text = f"(program {SIG} (module m {BODY} s) (main 0))"
        self.assertEqual(members(text), always(f="(to ?0 (tuple ?0 (from m t)))", x="(from m t)"))
        self.assertEqual(hides(text), always(t="(from m t)"))

    def test_applied_functors(self):
        before = f"""{SIG} (functor fu (p s) ((alias r (from p t)) (alias w int) (def y (member p x)) (def k (fn a (tuple a (member p x)))))
            ((hide r) (val y () r) (val k (b) (to b (tuple b (from p t)))))) (module n {BODY}) (module o {BODY} s)"""
        text = f"(program {before} (module m (apply fu n)) (module q (apply fu o)) (main 0))"
        self.assertEqual(members(text), always(k="(to ?0 (tuple ?0 int))", y="(from m r)"))
        self.assertEqual(hides(text), always(r="(from m r)"))
        self.assertEqual(members(text, "q"), always(k="(to ?0 (tuple ?0 (from o t)))", y="(from q r)"))
        self.assertEqual(members(text, "n"), always(f="(to ?0 (tuple ?0 int))", x="int", z="int"))
        sealed = f"(program {before} (sig u (hide r) (val y () r)) (module m (apply fu n) u) (main 0))"
        self.assertEqual(members(sealed), always(y="(from m r)"))
        self.assertEqual(hides(sealed), always(r="(from m r)"))
        plain = f"(program {before} (sig u (val k () (to bool (tuple bool int)))) (module m (apply fu n) u) (main 0))"
        self.assertEqual(members(plain), always(k="(to bool (tuple bool int))"))
        self.assertEqual(hides(plain), {})

    def test_other_names(self):
        text = f"(program {SIG} (functor fu (p s) ((def y 1)) ((val y () int))) (module n {BODY}) (def x 1) (main 0))"
        for name in ("p", "fu", "s", "x", "t", "nothing"):
            self.assertEqual((members(text, name), hides(text, name)), ({}, {}))

    def test_bodies_that_are_choices(self):
        text = "(program (sig s) (functor fu (p s) ((def x true) (alias t bool)) ((hide t) (val x () t))) (module n (struct)) (module m (choose A (apply fu n) (choose B (struct (def x 5) (alias t int)) (struct (def y 5))))) (main 0))"
        off_on, off_off = ("A", False, ("B", True, False)), ("A", False, ("B", False, True))
        self.assertEqual(members(text), {"x": ((off_on, "int"), (A_ON, "(from m t)")), "y": ((off_off, "int"),)})
        self.assertEqual(hides(text), {"t": ((off_on, "int"), (A_ON, "(from m t)"))})

    def test_rows_under_when(self):
        text = "(program (module m (struct (when A ((def x 1) (alias t int)) ((alias t bool))) (def y (choose B 1 true)))) (main 0))"
        self.assertEqual(members(text), {"x": ((A_ON, "int"),), "y": ((("B", False, True), "bool"), (("B", True, False), "int"))})
        self.assertEqual(hides(text), {"t": ((A_OFF, "bool"), (A_ON, "int"))})
        text = "(program (sig s (when A ((hide t) (val x () t)) ((val x () int)))) (module m (struct (alias t int) (def x 1)) s) (main 0))"
        self.assertEqual(members(text), {"x": ((A_OFF, "int"), (A_ON, "(from m t)"))})
        self.assertEqual(hides(text), {"t": ((A_ON, "(from m t)"),)})
        text = "(program (when A ((module m (struct (def x 1)))) ((module m (struct (def x true))))) (when B ((module n (struct (def y 1)))) ()) (main 0))"
        self.assertEqual(members(text), {"x": ((A_OFF, "bool"), (A_ON, "int"))})
        self.assertEqual(members(text, "n"), {"y": ((("B", True, False), "int"),)})

    def test_equal_schemes_of_unlike_bodies_are_one_piece(self):
        text = "(program (module m (choose A (struct (def x (fn a a)) (alias t int)) (struct (def x (fn b b)) (alias t int)))) (main 0))"
        self.assertEqual(members(text), always(x="(to ?0 ?0)"))
        self.assertEqual(hides(text), always(t="int"))

    def test_settings_that_do_not_come_so_far(self):
        text = "(program (module m (struct (def x 1))) (main (choose A (+ 1 true) (choose B y (match 1 (1 2))))))"
        self.assertEqual(members(text), {"x": ((("A", False, ("B", False, True)), "int"),)})
        text = "(program (module m (struct (def x (choose A (+ 1 true) 1)))) (main 0))"
        self.assertEqual(members(text), {"x": ((A_OFF, "int"),)})
        self.assertEqual(members("(program (module m (struct (def x 1) (def y z))) (main 0))"), {})

    def test_members_that_stand_twice(self):
        text = "(program (module m (struct (when A ((def x 1) (alias t int)) ()) (def x true) (alias t bool))) (main 0))"
        self.assertEqual(members(text), {"x": ((A_OFF, "bool"),)})
        self.assertEqual(hides(text), {"t": ((A_OFF, "bool"),)})
        text = "(program (when A ((module m (struct (def x 1)))) ()) (module m (struct (def x true) (def y 1))) (main 0))"
        self.assertEqual(members(text), {"x": ((A_OFF, "bool"),), "y": ((A_OFF, "int"),)})

    def test_every_mark_is_kept(self):
        text = "(program (module m (struct (def x (mark 1 1)) (def y (choose A (mark 2 true) 1)))) (main 0))"
        self.assertEqual(members(text), {"x": ((True, "int"),), "y": ((A_OFF, "int"), (A_ON, "bool"))})
        self.assertEqual(members("(program (module m (struct (def x 1))) (main (+ 1 (mark 1 true))))"), {})


class Random(unittest.TestCase):
    def test_programs(self):
        told = 0
        for seed in range(300):
            chance = random.Random(seed)
            switches = ("A", "B", "C")[:seed % 4]
            tree = Programs(chance, switches, chance.choice([(), (1, 2)]), chance.choice([0, 0.01]), 0.15).program(
                chance.randint(2, 7), chance.randint(2, 4))
            told += self.compare(tree)
        self.assertGreater(told, 200)

    def compare(self, tree):
        c = check(tree)
        plain = {}
        for setting in every_setting(c.switches):
            if value_at(c.stages, setting) in ("fits", "cases"):
                plain[setting] = PlainTypes(kept_only(chosen(tree, setting), c.marks))
        told = 0
        for module in sorted({n[2] for n in all_nodes(tree) if n[0] == "module"}) + ["pa"]:
            own, types = members_of(c, module), hides_of(c, module)
            for rows in (own, types):
                self.assertEqual([name for name, _ in rows], sorted({name for name, _ in rows}))
                for _, table in rows:
                    self.assertTrue(table)
                    self.assertEqual(table_faults(table, c.switches), [])
            for setting in every_setting(c.switches):
                one = plain[setting].top["modules"].get(module) if setting in plain else None
                values = {x: plain[setting].store.scheme(use()) for x, use in one.values.items()} if one else {}
                self.assertEqual(self.at(own, setting), values)
                self.assertEqual(self.at(types, setting), one.types if one else {})
                told += len(values)
        return told

    def at(self, rows, setting):
        found = {name: value_at(table, setting) for name, table in rows}
        return {name: value for name, value in found.items() if value is not None}

    def test_programs_without_sense(self):
        for seed in range(60):
            tree = Trees(random.Random(seed)).program(6, 3)
            c = check(tree)
            for module in ("x", "z", "f1"):
                for rows in (members_of(c, module), hides_of(c, module)):
                    for _, table in rows:
                        self.assertEqual(table_faults(table, c.switches), [])

    def test_nothing_is_changed(self):
        c = check(read_program(f"(program {SIG} (module m {BODY} s) (module n {BODY}) (main (choose A 1 (mark 1 true))))"))
        names = ("program", "switches", "marks", "stages", "faults", "schemes", "typable")
        before = copy.deepcopy([getattr(c, name) for name in names])
        first = (members_of(c, "m"), hides_of(c, "m"), members_of(c, "n"))
        for _ in range(3):
            self.assertEqual((members_of(c, "m"), hides_of(c, "m"), members_of(c, "n")), first)
        self.assertEqual([getattr(c, name) for name in names], before)


class Exchange(unittest.TestCase):
    """10.9: what follows from the rules."""

    BODIES = [
        "(struct (alias t int) (def x 3) (def f (fn y (tuple y x))))",
        "(struct (def x true) (alias t bool) (defrec (f (fn y (tuple y x)))) (def more 1))",
        "(struct (alias t (record)) (def x (record)) (def f (fn y (let z (tuple y (record)) z))))",
        "(choose A (struct (alias t int) (def x 1) (def f (fn y (tuple y 2)))) (struct (alias t bool) (def x true) (def f (fn y (tuple y x)))))",
    ]

    def test_a_body_is_exchanged(self):
        told = []
        for body in self.BODIES:
            rest = """(def y (app (member m f) 1)) (module n (struct (def g (fn a (app (member m f) a))) (alias u (from m t))))
                (functor fu (p s) ((def h (member p x))) ((val h () (from p t)))) (module o (apply fu m))"""
            c = check(read_program(f"(program {SIG} (module m {body} s) {rest} (main (tuple y (member m x) (member n g) (member o h))))"))
            self.assertEqual({stage for _, stage in c.stages}, {"fits"})
            told.append((c.schemes, [(members_of(c, m), hides_of(c, m)) for m in "mno"]))
        for one in told[1:]:
            self.assertEqual(one, told[0])

    def test_functors_of_modules_that_are_sealed_alike(self):
        text = f"""(program {SIG} (functor fu (p s) ((alias r (tuple (from p t) int)) (def y (tuple (member p x) 1)) (def k (member p f)))
            ((hide r) (val y () r) (val k (a) (to a (tuple a (from p t)))))) (module n {self.BODIES[0]} s) (module o {self.BODIES[1]} s)
            (module m (apply fu n)) (module q (apply fu o)) (main 0))"""
        one, other = members(text, "m"), members(text, "q")
        renamed = {name: ((True, row[0][1].replace("from q", "from m").replace("from o", "from n")),) for name, row in other.items()}
        self.assertEqual(one, renamed)
        self.assertEqual(one, always(k="(to ?0 (tuple ?0 (from n t)))", y="(from m r)"))


if __name__ == "__main__":
    unittest.main()
