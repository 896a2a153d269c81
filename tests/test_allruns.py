"""Part 14: all runs at once."""

import copy
import os
import random
import time
import types
import unittest

from eacharm.allruns import all_runs, deciding_switches, outcome_condition, run_paths, runs_apart
from eacharm.choosing import chosen, switches_in
from eacharm.machine import run
from eacharm.reader import read_program
from eacharm.tables import table_of, value_at
from bareterms import BareTerms
from plainruns import plain_run
from programs import Programs
from samples import PLACES, Trees
from settings import every_setting, holds_slowly, random_condition, setting_rank, table_faults

MANY = int(os.environ.get("PROGRAMS", 300))
A_ON, A_OFF = ("A", True, False), ("A", False, True)
ONE = "(program (main (if (choose A true 3) 1 (choose B 2 4))))"


def program(text):
    return read_program(text if text.startswith("(program") else f"(program (main {text}))")


def agrees(decided, setting):
    return all((switch in setting) == on for switch, on in decided)


class Examples(unittest.TestCase):
    def test_example(self):
        p = program(ONE)
        table = all_runs(p)
        self.assertEqual(table, ((A_OFF, ("stuck", 1, 0)), (A_ON, ("value", ("number", 1), 0))))
        self.assertEqual(deciding_switches(table), ("A",))
        self.assertEqual(sorted(run_paths(p)), [((("A", False),), ("stuck", 1, 0)), ((("A", True),), ("value", ("number", 1), 0))])


class Paths(unittest.TestCase):
    """14.2."""

    def test_kinds(self):
        self.assertIsInstance(run_paths(program("1")), types.GeneratorType)
        self.assertEqual(list(run_paths(program("1"))), [((), ("value", ("number", 1), 0))])
        self.assertEqual(list(run_paths(program("(app (fn x x) 1)"), 0)), [((), ("fuel", None, 0))])
        self.assertEqual(list(run_paths(program("(app (fn x x) 1)"), fuel=1)), [((), ("value", ("number", 1), 1))])

    def switches(self, text):
        return {switch for decided, _ in run_paths(program(text)) for switch, _ in decided}

    def test_switches_that_no_run_comes_to(self):
        for text in ("(if true 1 (choose A 1 2))", "(let f (fn x (choose A 1 2)) 3)", "(case (tag l 1) (l x x) (m x (choose A 1 2)) (else z (choose A 1 2)))",
                     "(match 1 (2 (choose A 1 2)) (_ 3))", "(rec ((f (fn x (choose A 1 2)))) 3)", "(let x hole (choose A 1 2))", "(tuple (app 1 2) (choose A 1 2))",
                     "(program (def f (fn x (choose A 1 2))) (module m (struct (def g (fn x (choose A 1 2))))) (main 1))",
                     "(program (sig s) (functor f (x s) ((def y (choose A 1 2))) ()) (main 1))"):
            self.assertEqual(self.switches(text), set(), text)
        self.assertEqual(self.switches("(choose A (choose B 1 2) 3)"), {"A", "B"})
        self.assertEqual(len(list(run_paths(program("(choose A (choose B 1 2) 3)")))), 3)
        self.assertEqual(len(list(run_paths(program("(tuple (choose A 1 2) (choose A 1 2) (choose A 1 2))")))), 2)

    def test_decided_is_ascending(self):
        for decided, _ in run_paths(program("(tuple (choose C 1 2) (choose A 1 2) (choose B 1 2))")):
            self.assertEqual([switch for switch, _ in decided], ["A", "B", "C"])


class Runs(unittest.TestCase):
    """14.1."""

    def test_cells_of_paths(self):
        text = "(let c (cell int 0) (let x (write c (choose A 1 2)) (let y (if (choose B true false) (write c (+ (read c) 10)) 0) (tuple (read c) c))))"
        table = all_runs(program(text))
        for setting in every_setting("AB"):
            content = ("number", (1 if "A" in setting else 2) + 10 * ("B" in setting))
            self.assertEqual(value_at(table, setting), ("value", ("tuple", (content, ("cell", content))), 0))

    def test_choices_of_all_kinds(self):
        text = """(program (when A ((def x 1)) ((def y 2))) (sig s) (functor f (p s) ((when B ((def v (member p w))) ((def v 0)))) ())
            (module n (choose C (struct (def w 5)) (struct (def w hole)))) (module m (choose A (apply f n) (struct (def v 7))))
            (defrec (g (choose B (fn z z) (fn z 3)))) (main (match (tuple (member m v) (app g 4)) ((tuple (choose C 5 7) q) q)
            (when A ((_ x)) ((_ y) (_ hole))))))"""
        p = program(text)
        table = all_runs(p)
        for setting in every_setting("ABC"):
            self.assertEqual(value_at(table, setting), plain_run(chosen(p, setting)))
        self.assertEqual({outcome[0] for _, outcome in table}, {"value", "hole"})

    def test_splitting_is_no_call(self):
        self.assertEqual(all_runs(program("(tuple (choose A 1 2) (app (fn x x) (choose B 1 1)))"), 1), (
            (A_OFF, ("value", ("tuple", (("number", 2), ("number", 1))), 1)), (A_ON, ("value", ("tuple", (("number", 1), ("number", 1))), 1))))

    def test_fuel(self):
        p = program("(program (defrec (f (fn n (if (< n 1) 0 (app f (- n 1)))))) (main (app f (choose A 1 4))))")
        self.assertEqual(all_runs(p, 3), ((A_OFF, ("fuel", None, 3)), (A_ON, ("value", ("number", 0), 2))))
        self.assertEqual(all_runs(p, fuel=5), ((A_OFF, ("value", ("number", 0), 5)), (A_ON, ("value", ("number", 0), 2))))

    def test_edits_switches(self):
        p = ("program", 0, (), ("choose", 1, "e1", ("number", 2, 1), ("choose", 3, "A", ("number", 4, 2), ("number", 5, 3))))
        self.assertEqual(value_at(all_runs(p), ["e1", "A"])[1], ("number", 1))
        self.assertEqual(value_at(all_runs(p), ["A"])[1], ("number", 2))


class Tables(unittest.TestCase):
    """14.3."""

    def test_outcome_condition(self):
        p = program("(choose A (choose B 1 (app 1 2)) (choose B hole (app (fn x (app x x)) (fn x (app x x)))))")
        table = all_runs(p)
        self.assertEqual(outcome_condition(table, "value"), ("A", ("B", True, False), False))
        self.assertEqual(outcome_condition(table, "stuck"), ("A", ("B", False, True), False))
        self.assertEqual(outcome_condition(table, "hole"), ("A", False, ("B", True, False)))
        self.assertEqual(outcome_condition(table, "fuel"), ("A", False, ("B", False, True)))
        self.assertIs(outcome_condition(all_runs(program("1")), "value"), True)
        self.assertIs(outcome_condition(all_runs(program("1")), "stuck"), False)
        self.assertIs(outcome_condition((), "value"), False)
        table = all_runs(program("(choose A 1 2)"))
        self.assertIs(outcome_condition(table, "value"), True)

    def test_deciding_switches(self):
        self.assertEqual(deciding_switches(()), ())
        self.assertEqual(deciding_switches(((True, 5),)), ())
        self.assertEqual(deciding_switches(((A_ON, None),)), ("A",))
        self.assertEqual(deciding_switches(all_runs(program("(tuple (choose B 1 1) (choose A 1 2))"))), ("A",))
        for seed in range(200):
            chance = random.Random(seed)
            rows = [(random_condition(chance, "ABCD"), chance.choice([1, 2, None, "x"])) for _ in range(chance.randint(0, 4))]
            table = table_of(rows)
            wanted = []
            for switch in "ABCD":
                pairs = [(s, tuple(x for x in "ABCD" if (x in s) != (x == switch))) for s in every_setting("ABCD")]
                if any(value_at(table, s, "none") != value_at(table, t, "none") for s, t in pairs):
                    wanted.append(switch)
            self.assertEqual(deciding_switches(table), tuple(wanted))

    def test_runs_apart(self):
        p = program(ONE)
        self.assertIsNone(runs_apart(p, p))
        self.assertIsNone(runs_apart(program("1"), program("(choose A 1 1)")))
        self.assertIsNone(runs_apart(program("(choose B 1 1)"), program("(choose A 1 1)")))
        self.assertEqual(runs_apart(program("1"), program("2")), ())
        self.assertEqual(runs_apart(program("1"), program("(choose A 2 1)")), ("A",))
        self.assertEqual(runs_apart(program("(choose A 2 1)"), program("1")), ("A",))
        self.assertEqual(runs_apart(program("(choose A (choose C 2 1) 1)"), program("(choose B 1 1)")), ("A", "C"))
        self.assertEqual(runs_apart(program("(choose A 2 1)"), program("(choose B 2 1)")), ("B",))
        # Outcomes that differ in their calls alone differ.
        self.assertEqual(runs_apart(program("(choose A (app (fn x x) 1) 1)"), program("1")), ("A",))
        self.assertIsNone(runs_apart(program("(choose A 1 1)"), program("1"), 0))
        # The fuel counts.
        long, short = program("(app (fn x x) (app (fn x x) 1))"), program("(app (fn x x) (app (fn x 2) 1))")
        self.assertIsNone(runs_apart(long, short, 1))
        self.assertEqual(runs_apart(long, short, fuel=2), ())


class Random(unittest.TestCase):
    def compare(self, tree, fuel):
        before = copy.deepcopy(tree)
        switches = switches_in(tree)
        table = all_runs(tree, fuel)
        paths = list(run_paths(tree, fuel))
        self.assertEqual(table_faults(table, switches), [])
        self.assertTrue(set(deciding_switches(table)) <= set(switches))
        for setting in every_setting(switches):
            wanted = run(chosen(tree, setting), fuel)
            self.assertEqual(value_at(table, setting), wanted)
            self.assertEqual([outcome for decided, outcome in paths if agrees(decided, setting)], [wanted])
            for word in ("value", "hole", "stuck", "fuel"):
                self.assertEqual(holds_slowly(outcome_condition(table, word), setting), wanted[0] == word)
        self.assertEqual(tree, before)
        return table

    def test_programs(self):
        parts = 0
        for seed in range(MANY // 2):
            chance = random.Random(seed)
            switches = ("A", "B", "C")[:1 + seed % 3]
            make = lambda: Programs(chance, switches, (1, 2), chance.choice([0.0, 0.02, 0.1]), chance.choice([0.1, 0.3]),
                                    seed % 3 > 0).program(chance.randint(0, 9), chance.randint(2, 5))
            first = make()
            parts += len(self.compare(first, chance.choice([1, 5, 40]))) > 1
            self.apart(first, make(), switches, 40)
        self.assertGreater(parts, MANY // 6)

    def apart(self, first, second, switches, fuel):
        unlike = [s for s in every_setting(switches) if run(chosen(first, s), fuel) != run(chosen(second, s), fuel)]
        wanted = min(unlike, key=lambda s: setting_rank(s, switches), default=None)
        self.assertEqual(runs_apart(first, second, fuel), wanted)
        self.assertEqual(runs_apart(second, first, fuel), wanted)

    def test_bare_terms(self):
        for seed in range(MANY):
            first, second = (BareTerms(random.Random(seed + k), ("A", "B"), (1, 2)).program() for k in (0, 10000))
            self.compare(first, 30)
            self.apart(first, second, ("A", "B"), 30)

    def test_programs_without_sense(self):
        for seed in range(MANY // 2):
            self.compare(Trees(random.Random(seed)).program(seed % 6, 4), 30)

    def test_places(self):
        self.compare(PLACES, 30)


class Large(unittest.TestCase):
    def test_many_switches_and_calls(self):
        start = time.time()
        text = "1"
        for switch in "ABCDEFGH":
            text = f"(+ {text} (choose {switch} 1 0))"
        p = program(f"(program (defrec (f (fn n (if (< n 1) {text} (+ 0 (app f (- n 1))))))) (main (app f 1999)))")
        table = all_runs(p, 2000)
        self.assertEqual(len(table), 9)
        for setting in every_setting("ABCDEFGH"):
            self.assertEqual(value_at(table, setting), ("value", ("number", 1 + len(setting)), 2000))
        p = program(f"(program (defrec (f (fn n (if (< n 1) 0 (+ {text} (app f (- n 1))))))) (main (app f 99)))")
        self.assertEqual(len(all_runs(p, 2000)), 9)
        self.assertLess(time.time() - start, 8)

    def test_twelve_switches(self):
        start = time.time()
        names = [*"ABCDEF", *[f"e{k}" for k in range(1, 7)]]
        # Twice what the others come to, and one more where the switch is on.
        node = ("number", 1, 0)
        for k, switch in enumerate(names):
            n = 10 * k + 10
            twice = ("op", n, "+", ("name", n + 1, "x"), ("name", n + 2, "x"))
            node = ("let", n + 3, "x", node, ("op", n + 4, "+", twice, ("choose", n + 5, switch, ("number", n + 6, 1), ("number", n + 7, 0))))
        table = all_runs(("program", 0, (), node))
        self.assertEqual(len(table), 4096)
        self.assertEqual(value_at(table, names), ("value", ("number", 4095), 0))
        self.assertEqual(deciding_switches(table), tuple(sorted(names)))
        self.assertLess(time.time() - start, 8)


if __name__ == "__main__":
    unittest.main()
