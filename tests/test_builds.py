"""16.2 to 16.4: counting, finding and comparing builds."""

import copy
import random
import time
import unittest

from eacharm.builds import (
    alike_condition, builds_having, fitting_schemes, nearest_build, parting_setting, scheme_counts, stage_counts)
from eacharm.checking import check
from eacharm.choosing import chosen
from eacharm.lots import verdict_at
from eacharm.reader import read_program
from eacharm.tables import value_at
from eacharm.terms import is_instance, read_scheme
from bareterms import BareTerms
from programs import Programs
from settings import every_setting, holds_slowly, is_condition, setting_rank, table_faults, value_slowly

INT, BOOL = ("int",), ("bool",)
FOUR = "(program (main (choose A (choose B x (+ 1 true)) (choose B (match 1 (1 2)) 3))))"


def told(text):
    return check(read_program(text if text.startswith("(program") else f"(program (main {text}))"))


class Counts(unittest.TestCase):
    """16.2."""

    def test_stage_counts(self):
        self.assertEqual(stage_counts(told(FOUR)), (("names", 1), ("types", 1), ("cases", 1), ("fits", 1)))
        self.assertEqual(stage_counts(told("1")), (("names", 0), ("types", 0), ("cases", 0), ("fits", 1)))
        self.assertEqual(stage_counts(told("(choose A 1 (app 2 3))")), (("names", 0), ("types", 1), ("cases", 0), ("fits", 1)))
        self.assertEqual(stage_counts(told("(choose A 1 (tuple (choose B 1 2) (choose C x 2)))")), (("names", 2), ("types", 0), ("cases", 0), ("fits", 6)))

    def test_schemes(self):
        c = told("(choose A 1 (choose B true (choose C 2 (match 1 (1 3)))))")
        # Where a match is not whole the program does not fit.
        self.assertEqual(len(c.schemes), 2)
        self.assertEqual(fitting_schemes(c), (
            (("A", True, ("B", False, ("C", True, False))), (INT, ())), (("A", False, ("B", True, False)), (BOOL, ()))))
        self.assertEqual(scheme_counts(c), (((INT, ()), 5), ((BOOL, ()), 2)))
        self.assertEqual(fitting_schemes(told("x")), ())
        self.assertEqual(scheme_counts(told("x")), ())

    def test_builds_having(self):
        c = told("(choose A (fn x x) (choose B (fn r (get l r)) (choose C (fn r (extend l 1 r)) x)))")
        arrow = lambda a, b: ("arrow", a, b)
        self.assertEqual(builds_having(c, arrow(INT, INT)), ("A", True, False))
        self.assertEqual(builds_having(c, arrow(INT, BOOL)), False)
        record = ("record", (("l", INT), ("m", BOOL)), None)
        self.assertEqual(builds_having(c, arrow(record, INT)), ("A", False, ("B", True, False)))
        self.assertEqual(builds_having(c, arrow(("record", (), None), ("record", (("l", INT),), None))), ("A", False, ("B", False, ("C", True, False))))
        self.assertIs(builds_having(c, BOOL), False)
        # Open rows and what they lack: what is put on must not be there.
        opened = arrow(("record", (), 7), ("record", (("l", INT),), 7))
        self.assertEqual(builds_having(c, opened), ("A", False, ("B", False, ("C", True, False))))
        wide = arrow(("record", (("m", INT),), 7), ("record", (("l", INT), ("m", INT)), 7))
        self.assertEqual(builds_having(c, wide), ("A", False, ("B", False, ("C", True, False))))
        apart = arrow(("record", (), 7), ("record", (("l", INT),), 8))
        self.assertIs(builds_having(c, apart), False)
        one = told("(choose A (fn r (update l 1 (extend l 1 r))) (fn r (tuple (extend l 1 r) (extend m 2 r))))")
        self.assertEqual(builds_having(one, read_scheme("(scheme (to (record | ?0) (record (l int) | ?0)) (lacks 0 l))")[0], lacks={0: ("l",)}), ("A", True, False))
        two = ("arrow", ("record", (), 3), ("tuple", (("record", (("l", INT),), 3), ("record", (("m", INT),), 3))))
        self.assertEqual(builds_having(one, two), ("A", False, True))
        self.assertEqual(builds_having(one, two, lacks=None), ("A", False, True))
        keep = ("arrow", ("record", (("n", INT),), 3), ("tuple", (("record", (("l", INT), ("n", INT)), 3), ("record", (("m", INT), ("n", INT)), 3))))
        self.assertEqual(builds_having(one, keep, lacks={3: ["m", "l", "n", "l"], 9: ["a"]}), ("A", False, True))
        lacking = told("(fn r (let u (extend m 1 r) r))")
        same = ("arrow", ("record", (), 5), ("record", (), 5))
        self.assertIs(builds_having(lacking, same), False)
        self.assertIs(builds_having(lacking, same, lacks={5: ("m",)}), True)
        self.assertIs(builds_having(lacking, same, lacks={4: ("m",)}), False)


class Nearest(unittest.TestCase):
    """16.3."""

    def test_example(self):
        c = told("(choose A 1 (app 2 3))")
        self.assertEqual(nearest_build(c, [], prices={"A": 5}), (5, ("A",)))
        self.assertEqual(nearest_build(c, []), (1, ("A",)))
        self.assertEqual(nearest_build(c, ("A",), prices={"A": 5}), (0, ("A",)))

    def test_none(self):
        self.assertIsNone(nearest_build(told("x"), []))
        self.assertIsNone(nearest_build(told("(choose A x (app 1 2))"), ["A"], prices={"A": 0}))
        self.assertEqual(nearest_build(told("1"), []), (0, ()))
        self.assertEqual(nearest_build(told("1"), ["Z"], prices={"Z": 3}), (0, ()))

    def test_prices(self):
        # It fits where A and B are unlike.
        c = told("(choose A (choose B x 1) (choose B 1 x))")
        self.assertEqual(nearest_build(c, ["A", "B"]), (1, ("B",)))
        self.assertEqual(nearest_build(c, []), (1, ("B",)))
        self.assertEqual(nearest_build(c, [], prices={"B": 2}), (1, ("A",)))
        self.assertEqual(nearest_build(c, [], prices={"A": 0}), (0, ("A",)))
        self.assertEqual(nearest_build(c, [], prices={"A": 0, "B": 0}), (0, ("B",)))
        self.assertEqual(nearest_build(c, [], prices={}), (1, ("B",)))
        self.assertEqual(nearest_build(c, [], prices=None), (1, ("B",)))
        self.assertEqual(nearest_build(c, ["Z", "m1"], prices={"A": 10 ** 9, "B": 10 ** 9, "Z": 7}), (10 ** 9, ("B",)))
        self.assertEqual(nearest_build(c, ["B", "B"]), (0, ("B",)))

    def test_the_least_of_one_price(self):
        # Prices 0 make all settings that fit equal; the least is told.
        c = told("(choose A 1 (choose B x (choose C 2 x)))")
        self.assertEqual(nearest_build(c, ["A", "B", "C"], prices={"A": 0, "B": 0, "C": 0}), (0, ("C",)))
        self.assertEqual(nearest_build(c, ["B"], prices={"A": 1, "B": 0, "C": 1}), (1, ("C",)))


class Alike(unittest.TestCase):
    """16.4."""

    def rows(self, first, second, condition, setting):
        left, right = told(first), told(second)
        for one, other in ((left, right), (right, left)):
            self.assertEqual(alike_condition(one, other), condition)
            self.assertEqual(parting_setting(one, other), setting)

    def test_pairs(self):
        self.rows("1", "2", True, None)
        self.rows("1", "true", False, ())
        self.rows("x", "y", True, None)
        self.rows("x", "(app 1 2)", False, ())
        self.rows("(match 1 (1 2))", "(match true (true true))", True, None)
        self.rows("(+ 1 true)", "(tuple (mark 1 (+ 1 true)) 2)", True, None)
        self.rows("(choose A 1 true)", "1", ("A", True, False), ())
        self.rows("(choose A 1 true)", "true", ("A", False, True), ("A",))
        self.rows("(choose A 1 true)", "(choose B 1 true)", ("A", ("B", True, False), ("B", False, True)), ("B",))
        self.rows("(choose A (choose C x 1) 1)", "1", ("A", ("C", False, True), True), ("A", "C"))
        self.rows("(choose A (match 1 (1 2)) 2)", "(choose A (match 1 (1 true)) 3)", True, None)


class Random(unittest.TestCase):
    def make(self, chance, seed):
        switches = chance.sample("ABC", chance.randint(0, 3))
        if seed % 2:
            return BareTerms(chance, tuple(switches), (1,)).program()
        return Programs(chance, tuple(switches), (1, 2), chance.choice([0.0, 0.02]), 0.2, seed % 4).program(chance.randint(0, 4), chance.randint(2, 4))

    def test_counts_and_nearest(self):
        for seed in range(200):
            chance = random.Random(seed)
            tree = self.make(chance, seed)
            before = copy.deepcopy(tree)
            c = check(tree)
            verdicts = {s: verdict_at(check(chosen(tree, s)), ()) for s in every_setting(c.switches)}
            self.assertEqual(stage_counts(c), tuple(
                (word, sum(v[0] == word for v in verdicts.values())) for word in ("names", "types", "cases", "fits")))
            schemes = fitting_schemes(c)
            self.assertEqual(table_faults(schemes, c.switches), [])
            for s in verdicts:
                self.assertEqual(value_slowly(schemes, s), verdicts[s][1] if verdicts[s][0] == "fits" else None)
            fits = [s for s in verdicts if verdicts[s][0] == "fits"]
            self.assertEqual(scheme_counts(c), tuple((scheme, sum(verdicts[s][1] == scheme for s in fits)) for _, scheme in schemes))
            for wished in (INT, BOOL, ("arrow", INT, INT), ("tuple", (INT, INT)), *[scheme[0] for _, scheme in schemes]):
                lacks = chance.choice([None, {}, {0: ("l", "m"), 1: ("l",)}])
                condition = builds_having(c, wished, lacks=lacks)
                self.assertTrue(is_condition(condition))
                for s in verdicts:
                    self.assertEqual(holds_slowly(condition, s), s in fits and is_instance(wished, verdicts[s][1], lacks))
            for _ in range(4):
                prices = {x: chance.choice([0, 0, 1, 2, 7]) for x in "ABCZ" if chance.random() < 0.6}
                wanted = [x for x in "CBAZ" if chance.random() < 0.5]
                price = lambda s: sum(prices.get(x, 1) for x in c.switches if (x in s) != (x in wanted))
                best = min(((price(s), setting_rank(s, c.switches), s) for s in fits), default=None)
                copies = (dict(prices), list(wanted))
                self.assertEqual(nearest_build(c, wanted, prices=prices), best and (best[0], best[2]))
                self.assertEqual((prices, wanted), copies)
            self.assertEqual(tree, before)

    def test_alike(self):
        unlike = 0
        for seed in range(200):
            chance = random.Random(seed)
            left, right = check(self.make(chance, seed)), check(self.make(chance, seed))
            condition = alike_condition(left, right)
            self.assertTrue(is_condition(condition))
            self.assertEqual(alike_condition(right, left), condition)
            parting = []
            for s in every_setting("ABC"):
                verdicts = [verdict_at(c, s) for c in (left, right)]
                alike = verdicts[0][0] == verdicts[1][0] and (verdicts[0][0] != "fits" or verdicts[0] == verdicts[1])
                self.assertEqual(holds_slowly(condition, s), alike)
                parting += [] if alike else [s]
            wanted = min(parting, key=lambda s: setting_rank(s, "ABC"), default=None)
            self.assertEqual(parting_setting(left, right), wanted)
            self.assertEqual(parting_setting(right, left), wanted)
            unlike += wanted is not None
        self.assertGreater(unlike, 60)


class Large(unittest.TestCase):
    def test_many_schemes(self):
        start = time.time()
        text = "(choose A 1 true)"
        for switch in "BCDEFGH":
            text = f"(tuple (choose {switch} 1 true) {text})"
        c = told(text)
        self.assertEqual((len(scheme_counts(c)), alike_condition(c, c)), (256, True))
        self.assertEqual(nearest_build(c, "ABC", prices={}), (0, ("A", "B", "C")))
        self.assertEqual(value_at(fitting_schemes(c), ["A"]), value_at(c.schemes, ["A"]))
        self.assertLess(time.time() - start, 5)


if __name__ == "__main__":
    unittest.main()
