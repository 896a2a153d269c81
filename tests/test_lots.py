"""Part 12: lots, repairs and verdicts."""

import copy
import itertools
import random
import unittest

from eacharm.checking import check
from eacharm.choosing import chosen, kept_only, marks_in
from eacharm.conditions import holds
from eacharm.lots import least_lots, lot_condition, lots_at, lots_table, repairs_at, verdict_at
from eacharm.reader import read_program
from eacharm.scoping import names_table
from eacharm.shapes import cases_table
from eacharm.tables import value_at
from bareterms import BareTerms
from plaintypes import main_scheme
from programs import Programs
from samples import PLACES
from settings import condition_from, every_setting, holds_slowly, is_condition, random_condition, table_faults

G = "(program (main (let g (fn x (if (mark 1 x) (mark 2 (+ x 1)) 0)) 5)))"


def lots_slowly(test, marks):
    """The least sets of marks at which a test of a set holds, ascending."""
    found = [lot for lot in every_setting(marks) if test(lot)]
    return tuple(sorted(lot for lot in found if not any(set(less) < set(lot) for less in found)))


def switches_of(lot):
    return tuple(f"m{k}" for k in lot)


class Least(unittest.TestCase):
    """12.2."""

    def test_plain(self):
        self.assertEqual(least_lots(True, []), ((),))
        self.assertEqual(least_lots(False, []), ())
        self.assertEqual(least_lots(True, [3, 1]), ((),))
        self.assertEqual(least_lots(False, (1, 2)), ())
        self.assertEqual(least_lots(("m2", True, False), [2]), ((2,),))
        self.assertEqual(least_lots(("m2", False, True), [2]), ((),))
        self.assertEqual(least_lots(("m2", True, False), [3, 2, 1, 2]), ((2,),))

    def test_order(self):
        # 1 with 3, or 2: told as Python orders tuples.
        condition = ("m1", ("m2", True, ("m3", True, False)), ("m2", True, False))
        for marks in itertools.permutations((1, 2, 3)):
            self.assertEqual(least_lots(condition, marks), ((1, 3), (2,)))
        self.assertEqual(least_lots(condition, [3, 3, 2, 1, 1]), ((1, 3), (2,)))

    def test_holding_at_a_lot_and_not_at_a_greater_one(self):
        self.assertEqual(least_lots(("m1", False, ("m2", True, False)), [1, 2]), ((2,),))
        only = condition_from(lambda s: len(s) in (1, 3), ["m1", "m2", "m3"])
        self.assertEqual(least_lots(only, [1, 2, 3]), ((1,), (2,), (3,)))
        self.assertEqual(least_lots(condition_from(lambda s: s == ("m1", "m2"), ["m1", "m2", "m3"]), [1, 2, 3]), ((1, 2),))

    def test_random(self):
        for seed in range(400):
            chance = random.Random(seed)
            marks = chance.sample(range(1, 7), chance.randint(0, 6))
            condition = random_condition(chance, switches_of(marks))
            wanted = lots_slowly(lambda lot: holds_slowly(condition, switches_of(lot)), marks)
            told = least_lots(condition, chance.sample(marks, len(marks)) + marks[:2])
            self.assertEqual(told, wanted)
            self.assertIs(type(told), tuple)

    def test_no_argument_is_changed(self):
        marks = [3, 1, 3]
        least_lots(("m1", True, False), marks)
        self.assertEqual(marks, [3, 1, 3])


class Lots(unittest.TestCase):
    """12.3 and 12.4."""

    def test_example(self):
        c = check(read_program(G))
        self.assertEqual(lots_at(c, []), ((1, 2),))
        self.assertEqual(repairs_at(c, []), ((1,), (2,)))
        self.assertEqual(lots_table(c), ((True, ((1, 2),)),))
        self.assertEqual(verdict_at(c, ()), ("types", ((1, 2),)))

    def test_no_marks(self):
        for text, lots in (("1", ()), ("(app 1 2)", ((),)), ("x", ((),))):
            c = check(read_program(f"(program (main {text}))"))
            self.assertEqual((lots_at(c, ()), lots_table(c)), (lots, ((True, lots),)))
            self.assertEqual(repairs_at(c, ()), () if lots else ((),))
            self.assertEqual(lot_condition(c, ()), bool(lots))
            self.assertIs(lot_condition(c, [1]), False)

    def test_refused_with_no_mark_kept(self):
        c = check(read_program("(program (main (tuple (mark 1 true) (mark 2 (+ 1 2)) (+ 1 false))))"))
        self.assertEqual((lots_at(c, ()), repairs_at(c, ())), (((),), ()))

    def test_refused_by_names(self):
        c = check(read_program("(program (main (choose A (+ (mark 1 x) 1) (+ (mark 2 true) 1))))"))
        self.assertEqual((lots_at(c, ["A"]), repairs_at(c, ["A"])), (((),), ()))
        self.assertEqual((lots_at(c, []), repairs_at(c, [])), (((2,),), ((2,),)))
        self.assertEqual(verdict_at(c, ["A"]), ("names", 4, "unknown"))
        self.assertEqual(verdict_at(c, []), ("types", ((2,),)))

    def test_strange_switches_and_marks(self):
        c = check(read_program(
            "(program (main (choose B (+ (mark 3 true) 1) (choose A 1 (+ (mark 1 true) (mark 5 true))))))"))
        for strange in ([], ["Z"], ["m1", "m3", "m5"], ["e1", "a", ""]):
            self.assertEqual(lots_at(c, ["B", *strange]), ((3,),))
            self.assertEqual(lots_at(c, [*strange, "A"]), ())
            self.assertEqual(lots_at(c, strange), ((1,), (5,)))
            self.assertEqual(repairs_at(c, strange), ((1, 5),))
            self.assertEqual(verdict_at(c, ["A", *strange]), ("fits", (("int",), ())))
        self.assertEqual(lots_at(c, ("A", "A", "B", "B")), ((3,),))
        self.assertEqual(lot_condition(c, [3]), ("B", True, False))
        self.assertEqual(lot_condition(c, (1,)), ("A", False, ("B", False, True)))
        self.assertEqual(lot_condition(c, [5, 5]), lot_condition(c, [5]))
        for lot in ([], [1, 3], [2], [1, 2], [7], [0], [5, 3]):
            self.assertIs(lot_condition(c, lot), False)

    def test_lots_of_several_marks_in_any_order(self):
        c = check(read_program("(program (main (fn x (tuple (mark 4 (+ x 1)) (mark 2 (if x 1 2)) (mark 6 (get l x))))))"))
        self.assertEqual(lots_at(c, ()), ((2, 4), (2, 6), (4, 6)))
        self.assertEqual(repairs_at(c, ()), ((2, 4), (2, 6), (4, 6)))
        for lot in ([4, 2], (2, 4), [2, 4, 2]):
            self.assertIs(lot_condition(c, lot), True)

    def test_verdicts(self):
        c = check(read_program("(program (main (choose A (choose B x (+ 1 true)) (choose B (match 1 (1 2)) 3))))"))
        self.assertEqual(verdict_at(c, ["A", "B"]), ("names", 3, "unknown"))
        self.assertEqual(verdict_at(c, ["A"]), ("types", ((),)))
        self.assertEqual(verdict_at(c, ["B"]), ("cases", 8, ("number", 0)))
        self.assertEqual(verdict_at(c, []), ("fits", (("int",), ())))


class Random(unittest.TestCase):
    def compare(self, tree, whole=True):
        before = copy.deepcopy(tree)
        c = check(tree)
        table = lots_table(c)
        self.assertEqual(table_faults(table, c.switches), [])
        for setting in every_setting(c.switches):
            one = chosen(tree, setting)
            lots = lots_at(c, [*setting, "Z"])
            self.assertEqual(value_at(table, setting), lots)
            good = not names_table(one)
            typed = lambda lot: good and main_scheme(kept_only(one, lot)) is not None
            # The marks that are not chosen at all can be kept or not.
            kept = marks_in(one)
            wanted = lots_slowly(lambda lot: not typed(lot), c.marks)
            self.assertEqual(lots, wanted)
            repairs = lots_slowly(lambda lot: typed([k for k in c.marks if k not in lot]), c.marks)
            self.assertEqual(repairs_at(c, setting), repairs)
            self.assertTrue(all(set(lot) <= set(kept) for lot in lots + repairs))
            d = check(one)
            self.assertEqual(verdict_at(c, setting), verdict_at(d, ()))
            self.assertEqual(verdict_at(c, setting), self.verdict(one, lots))
        for lot in {lot for _, lots in table for lot in lots} | {(), (1,), (1, 9)}:
            condition = lot_condition(c, lot[::-1])
            self.assertTrue(is_condition(condition))
            for setting in every_setting(c.switches):
                self.assertEqual(holds(condition, setting), lot in lots_at(c, setting))
        self.assertEqual(tree, before)
        return [stage for _, stage in c.stages]

    def verdict(self, one, lots):
        """12.4 for one program, by the tests' own checkers."""
        if names_table(one):
            return ("names", *names_table(one)[0][1])
        scheme = main_scheme(kept_only(one, marks_in(one)))
        if scheme is None:
            return ("types", lots)
        if cases_table(one):
            return ("cases", *cases_table(one)[0][1])
        return ("fits", scheme)

    def test_programs(self):
        stages = []
        for seed in range(150):
            chance = random.Random(seed)
            marks = chance.choice([(), (1, 2), (5, 2, 3), (6, 4, 2, 1)])
            stages += self.compare(Programs(chance, ("A", "B", "C")[:seed % 4], marks, chance.choice([0.01, 0.03, 0.06]),
                                            chance.choice([0.1, 0.2]), seed % 2).program(chance.randint(0, 6), chance.randint(2, 5)))
        self.assertEqual(set(stages), {"names", "types", "cases", "fits"})

    def test_bare_terms(self):
        for seed in range(500):
            switches = ((), ("A",), ("A", "B"))[seed % 3]
            self.compare(BareTerms(random.Random(seed), switches, (1, 2, 4, 6)[:seed % 5]).program())

    def test_places(self):
        c = check(PLACES)
        self.assertEqual(lots_table(c), ((True, ((),)),))


if __name__ == "__main__":
    unittest.main()
