"""[1.1] to [1.5]: settings and conditions, compared with going through all settings."""

import copy
import itertools
import random
import types
import unittest

from eacharm.conditions import (
    all_settings, both, but_not, count_settings, either, first_setting, fixed, from_settings,
    holds, implies, no, switch_condition, switched, switches_of,
)
from settings import (
    condition_from, every_setting, holds_slowly, is_condition, random_condition, setting_rank,
)

NAMES = ("A", "B", "C1", "e1", "m1")
A, B, C = ("A", True, False), ("B", True, False), ("C", True, False)


def samples(many=60, seed=1):
    """Conditions over NAMES, with True, False and all single switches among them."""
    chance = random.Random(seed)
    found = [True, False, *[(name, True, False) for name in NAMES]]
    found.extend((name, False, True) for name in NAMES)
    return found + [random_condition(chance, NAMES) for _ in range(many)]


class OneForm(unittest.TestCase):
    def test_switch(self):
        self.assertEqual(switch_condition("A"), ("A", True, False))
        self.assertEqual(switch_condition("m3"), ("m3", True, False))

    def same(self, condition, test):
        """The condition must be the one form of what the test tells."""
        self.assertTrue(is_condition(condition), condition)
        self.assertEqual(condition, condition_from(test, NAMES))

    def test_no(self):
        for one in samples():
            self.same(no(one), lambda s: not holds_slowly(one, s))
        self.assertIs(no(True), False)
        self.assertIs(no(False), True)

    def test_two(self):
        for one, other in itertools.product(samples(30), samples(25, seed=2)):
            self.same(both(one, other), lambda s: holds_slowly(one, s) and holds_slowly(other, s))
            self.same(either(one, other), lambda s: holds_slowly(one, s) or holds_slowly(other, s))
            self.same(
                but_not(one, other), lambda s: holds_slowly(one, s) and not holds_slowly(other, s)
            )

    def test_truths(self):
        for one in samples():
            self.assertEqual(both(True, one), one)
            self.assertEqual(both(one, True), one)
            self.assertIs(both(False, one), False)
            self.assertIs(both(one, False), False)
            self.assertIs(either(True, one), True)
            self.assertIs(either(one, True), True)
            self.assertEqual(either(False, one), one)
            self.assertEqual(either(one, False), one)
            self.assertEqual(but_not(True, one), no(one))
            self.assertEqual(but_not(one, False), one)
            self.assertIs(but_not(one, True), False)
            self.assertIs(but_not(False, one), False)

    def test_switched(self):
        for switch in ("A", "B", "C1", "m1", "A0", "Z", "zz"):
            names = (*NAMES, switch)
            for on, off in itertools.product(samples(18), samples(14, seed=3)):
                done = switched(switch, on, off)
                self.assertTrue(is_condition(done), done)
                self.assertEqual(done, condition_from(
                    lambda s: holds_slowly(on if switch in s else off, s), names))

    def test_switched_by_hand(self):
        self.assertIs(switched("A", True, True), True)
        self.assertEqual(switched("A", True, False), A)
        self.assertEqual(switched("A", A, A), A)
        self.assertEqual(switched("A", B, B), B)
        self.assertEqual(switched("B", A, False), ("A", B, False))
        self.assertEqual(switched("B", ("B", A, False), True), switched("B", A, True))
        self.assertEqual(switched("B", A, C), ("A", ("B", True, C), ("B", False, C)))
        self.assertIs(switched("B", B, B) == B, True)
        self.assertIs(switched("A", no(A), A), False)

    def test_fixed(self):
        for one in samples():
            for switch in (*NAMES, "A0", "Z"):
                for on in (True, False):
                    done = fixed(one, switch, on)
                    turned = lambda s: tuple(n for n in s if n != switch) + ((switch,) * on)
                    self.same(done, lambda s: holds_slowly(one, turned(s)))
                    self.assertNotIn(switch, switches_of(done))

    def test_fixed_without_the_switch(self):
        for one in samples():
            for switch in ("A0", "D", "Z"):
                self.assertIs(fixed(one, switch, True), one)
                self.assertIs(fixed(one, switch, False), one)

    def test_twelve_switches(self):
        names = [f"S{at:02}" for at in range(12)]
        parity = False
        for name in names:
            parity = switched(name, no(parity), parity)
        self.assertTrue(is_condition(parity))
        self.assertEqual(switches_of(parity), tuple(names))
        self.assertEqual(count_settings(parity, names), 2048)
        self.assertIs(both(parity, no(parity)), False)
        self.assertIs(either(parity, no(parity)), True)
        self.assertEqual(but_not(True, parity), no(parity))
        self.assertEqual(from_settings(
            [s for s in all_settings(names) if len(s) % 2], names), parity)


class Readings(unittest.TestCase):
    def test_holds(self):
        for one in samples():
            for setting in every_setting(NAMES):
                self.assertIs(holds(one, setting), holds_slowly(one, setting))

    def test_holds_at_odd_settings(self):
        condition = ("A", ("B", False, True), False)
        for setting in (("A",), ["A"], ["A", "A"], ("Z", "A", "C"), ["m1", "A", "m1"]):
            self.assertIs(holds(condition, setting), True)
        for setting in ((), [], ["B"], ("B", "A"), ["A", "B"], ["B", "A", "B"], ("Z",)):
            self.assertIs(holds(condition, setting), False)

    def test_implies(self):
        for one, other in itertools.product(samples(30), samples(30, seed=4)):
            right = all(
                holds_slowly(other, s) for s in every_setting(NAMES) if holds_slowly(one, s))
            self.assertIs(implies(one, other), right)
            self.assertIs(implies(one, either(one, other)), True)
            self.assertIs(implies(both(one, other), other), True)

    def test_switches_of(self):
        for one in samples():
            matter = tuple(
                name for name in sorted(NAMES) if any(
                    holds_slowly(one, s) != holds_slowly(one, (*s, name))
                    for s in every_setting(NAMES) if name not in s))
            self.assertEqual(switches_of(one), matter)
        self.assertEqual(switches_of(True), ())
        self.assertEqual(switches_of(False), ())


class Counts(unittest.TestCase):
    def test_count_settings(self):
        for one in samples():
            for more in ((), ("Z",), ("Z", "A0", "Z", "A")):
                for names in ((*NAMES, *more), [*more, *NAMES[::-1]]):
                    right = sum(holds_slowly(one, s) for s in every_setting(names))
                    self.assertEqual(count_settings(one, names), right)

    def test_count_settings_by_hand(self):
        self.assertEqual(count_settings(True, ()), 1)
        self.assertEqual(count_settings(False, []), 0)
        self.assertEqual(count_settings(True, ["A", "A"]), 2)
        self.assertEqual(count_settings(A, ("A",)), 1)
        self.assertEqual(count_settings(A, ("B", "A", "C")), 4)
        many = [f"S{at}" for at in range(70)]
        self.assertEqual(count_settings(True, many), 1 << 70)

    def test_all_settings(self):
        self.assertEqual(list(all_settings(["B", "A"])), [(), ("B",), ("A",), ("A", "B")])
        self.assertEqual(list(all_settings([])), [()])
        self.assertEqual(list(all_settings(("A", "A"))), [(), ("A",)])
        for names in ((*NAMES, "B", "Z"), list(NAMES[::-1])):
            rows = list(all_settings(names))
            self.assertEqual(rows, sorted(every_setting(names), key=lambda s: setting_rank(s, names)))
            self.assertEqual(rows[0], ())
        self.assertIsInstance(all_settings(("A",)), types.GeneratorType)

    def test_lesser_setting(self):
        rows = list(all_settings(["A", "B", "C"]))
        for one, other in itertools.combinations(rows, 2):
            least = min(set(one) ^ set(other))
            self.assertNotIn(least, one)

    def test_from_settings(self):
        chance = random.Random(5)
        every = list(every_setting(NAMES))
        for _ in range(80):
            rows = [list(row) for row in chance.sample(every, chance.randint(0, len(every)))]
            for row in rows:
                row.extend(chance.choices(row, k=2) if row else [])
                chance.shuffle(row)
            rows.extend(chance.choices(rows, k=2) if rows else [])
            names = [*NAMES, "B"]
            chance.shuffle(names)
            listed = {tuple(sorted(set(row))) for row in rows}
            done = from_settings(rows, names)
            self.assertEqual(done, condition_from(lambda s: tuple(sorted(s)) in listed, NAMES))
            self.assertTrue(is_condition(done))

    def test_from_settings_by_hand(self):
        self.assertIs(from_settings([()], []), True)
        self.assertIs(from_settings([], ()), False)
        self.assertIs(from_settings([], ["A"]), False)
        self.assertIs(from_settings(((), ("A",)), ["A"]), True)
        self.assertEqual(from_settings([["B", "A"]], ["B", "A"]), ("A", B, False))
        self.assertEqual(holds(from_settings([("A",)], ("A",)), ("A", "Z")), True)

    def test_first_setting(self):
        self.assertIsNone(first_setting(False))
        self.assertEqual(first_setting(True), ())
        self.assertEqual(first_setting(A), ("A",))
        self.assertEqual(first_setting(either(A, B)), ("B",))
        self.assertEqual(first_setting(both(B, A)), ("A", "B"))
        for one in samples():
            where = [s for s in every_setting(NAMES) if holds_slowly(one, s)]
            right = min(where, key=lambda s: setting_rank(s, NAMES), default=None)
            self.assertEqual(first_setting(one), right)


class Arguments(unittest.TestCase):
    def test_no_argument_is_changed(self):
        names, rows, setting = ["B", "A", "B"], [["B", "A"], ["A", "A"], []], ["B", "A", "B"]
        before = copy.deepcopy((names, rows, setting))
        from_settings(rows, names)
        count_settings(A, names)
        list(all_settings(names))
        holds(A, setting)
        self.assertEqual((names, rows, setting), before)


if __name__ == "__main__":
    unittest.main()
