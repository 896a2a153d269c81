"""[1.6] and [1.7]: tables, compared with going through all settings."""

import copy
import random
import unittest

from eacharm.tables import covered, fixed_table, narrowed, paired, table_of, value_at
from settings import (
    every_setting, holds_slowly, is_condition, random_condition, table_faults, value_slowly,
)

NAMES = ("A", "B", "C", "D")
VALUES = [None, 0, 1, "", "x", (), (1, "x"), (None,), -5, ("fits", ((), ())), [1]]
MISSING = "nothing here"


def random_rows(chance, many=6):
    rows = []
    for _ in range(chance.randint(0, many)):
        condition = chance.choice([random_condition(chance, NAMES), False, True, ("A", True, False)])
        rows.append((condition, chance.choice(VALUES)))
    return rows


def first_value(rows, setting):
    for condition, value in rows:
        if holds_slowly(condition, setting):
            return value
    return MISSING


class Tables(unittest.TestCase):
    def same(self, table, value_of):
        """The table must have the form of [1.6] and the values of a function."""
        self.assertEqual(table_faults(table, NAMES), [])
        for setting in every_setting(NAMES):
            right = value_of(setting)
            found = value_slowly(table, setting, MISSING)
            self.assertEqual(found, right)
            self.assertEqual(value_at(table, list(setting[::-1]) * 2, MISSING), right)

    def test_example(self):
        rows = [(("A", True, False), 1), (True, 2), (("B", True, False), 3)]
        self.assertEqual(table_of(rows), ((("A", False, True), 2), (("A", True, False), 1)))

    def test_table_of(self):
        chance = random.Random(11)
        for _ in range(250):
            rows = random_rows(chance)
            self.same(table_of(rows), lambda s: first_value(rows, s))
            self.assertEqual(table_of(tuple(rows)), table_of([list(row) for row in rows]))

    def test_equal_tables(self):
        left = table_of([(("A", True, False), 1), (("B", True, False), 2), (True, 1)])
        right = table_of([(("A", False, ("B", True, False)), 2), (True, 1)])
        self.assertEqual(left, right)

    def test_no_rows(self):
        for rows in ([], (), [(False, 1)]):
            self.assertEqual(table_of(rows), ())
        self.assertIs(covered(()), False)
        self.assertEqual(narrowed((), True), ())
        self.assertEqual(fixed_table((), "A", True), ())
        self.assertEqual(paired((), ((True, 1),)), ())
        self.assertIsNone(value_at((), ()))

    def test_order_of_pieces(self):
        rows = [(("A", ("B", True, False), False), "both"), (("A", True, False), "a"),
                (("B", True, False), "b"), (True, "none")]
        self.assertEqual([value for _, value in table_of(rows)], ["none", "b", "a", "both"])

    def test_first_equal_value_is_kept(self):
        table = table_of([(False, 1.0), (("A", True, False), True), (True, 1)])
        self.assertEqual(table, ((True, 1),))
        self.assertIs(table[0][1], True)
        hidden = table_of([(("A", True, False), "x"), (("A", True, False), 1.0), (True, 1)])
        self.assertEqual(repr(hidden[0][1]), "1")

    def test_value_at(self):
        table = table_of([(("A", True, False), None), (("B", True, False), 7)])
        self.assertIsNone(value_at(table, ["A"], 5))
        self.assertEqual(value_at(table, ("B",), 5), 7)
        self.assertEqual(value_at(table, (), 5), 5)
        self.assertIsNone(value_at(table, ()))
        self.assertEqual(value_at(table, (), default="d"), "d")
        self.assertEqual(value_at(table, ["Z", "B", "Z"]), 7)

    def test_covered(self):
        chance = random.Random(12)
        for _ in range(120):
            table = table_of(random_rows(chance))
            condition = covered(table)
            self.assertTrue(is_condition(condition))
            for s in every_setting(NAMES):
                self.assertIs(holds_slowly(condition, s), value_slowly(table, s, MISSING) != MISSING)

    def test_narrowed(self):
        chance = random.Random(13)
        for _ in range(150):
            table = table_of(random_rows(chance))
            condition = chance.choice([True, False, random_condition(chance, NAMES)])
            self.same(narrowed(table, condition), lambda s: (
                value_slowly(table, s, MISSING) if holds_slowly(condition, s) else MISSING))

    def test_narrowed_reorders(self):
        table = table_of([(("A", False, ("B", False, True)), 1), (("A", False, True), 2), (True, 1)])
        self.assertEqual([value for _, value in table], [1, 2])
        self.assertEqual([value for _, value in narrowed(table, ("A", True, ("B", True, False)))], [2, 1])

    def test_fixed_table(self):
        chance = random.Random(14)
        for _ in range(150):
            table = table_of(random_rows(chance))
            switch, on = chance.choice([*NAMES, "Z"]), chance.random() < 0.5
            self.same(fixed_table(table, switch, on), lambda s: value_slowly(
                table, tuple(n for n in s if n != switch) + (switch,) * on, MISSING))

    def test_paired(self):
        chance = random.Random(15)
        for _ in range(120):
            left, right = table_of(random_rows(chance)), table_of(random_rows(chance))

            def pair(s):
                two = (value_slowly(left, s, MISSING), value_slowly(right, s, MISSING))
                return MISSING if MISSING in two else two
            self.same(paired(left, right), pair)

    def test_no_argument_is_changed(self):
        rows = [[("B", True, False), [1]], [True, [2]]]
        before = copy.deepcopy(rows)
        table = table_of(rows)
        self.assertEqual(rows, before)
        kept = copy.deepcopy(table)
        narrowed(table, ("A", True, False))
        fixed_table(table, "B", True)
        paired(table, table)
        covered(table)
        self.assertEqual(table, kept)
        rows.append([True, 5])
        rows[0][0] = False
        self.assertEqual(table, kept)

    def test_many_values(self):
        names = [f"S{at:02}" for at in range(9)]
        rows = []
        for at, setting in enumerate(every_setting(names)):
            condition = True
            for name in names[::-1]:
                condition = (name, condition, False) if name in setting else (name, False, condition)
            rows.append((condition, at))
        table = table_of(rows[::-1])
        self.assertEqual(len(table), 512)
        self.assertEqual(value_at(table, ()), 0)
        self.assertEqual(value_at(table, names), 511)


if __name__ == "__main__":
    unittest.main()
