"""1.8 and 16.1: causes."""

import copy
import itertools
import random
import time
import unittest

from eacharm.causes import deciding_switches, least_causes, part_condition, refusal_causes, stage_condition
from eacharm.checking import check
from eacharm.choosing import chosen
from eacharm.lots import verdict_at
from eacharm.reader import read_program
from bareterms import BareTerms
from programs import Programs
from settings import condition_from, every_setting, holds_slowly, is_condition, random_condition

REFUSALS = ("names", "types", "cases")
FOUR = "(program (main (choose A (choose B x (+ 1 true)) (choose B (match 1 (1 2)) 3))))"


def every_part(switches):
    """All part settings over the switches."""
    for states in itertools.product((None, False, True), repeat=len(switches)):
        yield tuple((switch, on) for switch, on in zip(sorted(switches), states) if on is not None)


def causes_slowly(condition, switches):
    settings = list(every_setting(switches))
    good = {}
    for part in every_part(switches):
        good[part] = all(holds_slowly(condition, s) for s in settings if all((x in s) == on for x, on in part))
    least = []
    for part in good:
        # If no pair can be left out alone, no more of them can.
        shorter = [part[:k] + part[k + 1:] for k in range(len(part))]
        if good[part] and not any(good[one] for one in shorter):
            least.append(part)
    return tuple(sorted(least))


class Parts(unittest.TestCase):
    def test_part_condition(self):
        self.assertIs(part_condition(()), True)
        self.assertEqual(part_condition((("A", True),)), ("A", True, False))
        self.assertEqual(part_condition((("A", False),)), ("A", False, True))
        self.assertEqual(part_condition((("A", False), ("B", True), ("e1", False))), ("A", False, ("B", ("e1", False, True), False)))
        for part in every_part("ABC"):
            condition = part_condition(part)
            self.assertTrue(is_condition(condition))
            for setting in every_setting("ABC"):
                self.assertEqual(holds_slowly(condition, setting), all((x in setting) == on for x, on in part))


class Least(unittest.TestCase):
    """1.8."""

    def test_example(self):
        self.assertEqual(least_causes(("A", ("B", True, False), ("C", True, False))), (
            (("A", False), ("C", True)), (("A", True), ("B", True)), (("B", True), ("C", True))))

    def test_plain(self):
        self.assertEqual(least_causes(True), ((),))
        self.assertEqual(least_causes(False), ())
        self.assertEqual(least_causes(("A", True, False)), ((("A", True),),))
        self.assertEqual(least_causes(("A", False, True)), ((("A", False),),))
        self.assertEqual(least_causes(("A", True, ("B", True, False))), ((("A", True),), (("B", True),)))
        self.assertEqual(least_causes(("A", ("B", False, True), ("B", True, False))), (
            (("A", False), ("B", True)), (("A", True), ("B", False))))

    def test_order(self):
        # False before True, a beginning before what goes on from it, "B" before "a".
        told = least_causes(condition_from(lambda s: "A" in s or ("B" in s) == ("a" in s), ["A", "B", "a"]))
        self.assertEqual(told, ((("A", True),), (("B", False), ("a", False)), (("B", True), ("a", True))))
        self.assertEqual(list(told), sorted(told))

    def test_random(self):
        for seed in range(250):
            chance = random.Random(seed)
            switches = chance.sample(["A", "B", "C", "D", "a", "e1", "m2"], chance.randint(0, 5))
            condition = random_condition(chance, switches)
            told = least_causes(condition)
            self.assertEqual(told, causes_slowly(condition, switches))
            self.assertIs(type(told), tuple)

    def test_eight_switches(self):
        start = time.time()
        for seed in range(3):
            condition = random_condition(random.Random(seed), "ABCDEFGH")
            self.assertEqual(least_causes(condition), causes_slowly(condition, "ABCDEFGH"))
        odd = condition_from(lambda s: len(s) % 2 == 1, "ABCDEFGH")
        self.assertEqual(len(least_causes(odd)), 128)
        some = condition_from(lambda s: 3 <= len(s) <= 5, "ABCDEFGH")
        told = least_causes(some)
        # Three on and three off, whichever they are.
        self.assertEqual(len(told), 8 * 7 * 6 * 5 * 4 * 3 // 36)
        self.assertEqual({len(part) for part in told}, {6})
        self.assertLess(time.time() - start, 10)


class Stages(unittest.TestCase):
    """16.1."""

    def test_stage_condition(self):
        c = check(read_program(FOUR))
        self.assertEqual(stage_condition(c, "names"), ("A", ("B", True, False), False))
        self.assertEqual(stage_condition(c, "types"), ("A", ("B", False, True), False))
        self.assertEqual(stage_condition(c, "cases"), ("A", False, ("B", True, False)))
        self.assertEqual(stage_condition(c, "fits"), ("A", False, ("B", False, True)))
        self.assertIs(stage_condition(c), False)
        self.assertEqual(stage_condition(c, "names", "types"), ("A", True, False))
        self.assertEqual(stage_condition(c, "types", "names", "types"), ("A", True, False))
        self.assertIs(stage_condition(c, "names", "types", "cases", "fits"), True)
        self.assertIs(stage_condition(check(read_program("(program (main 1))")), "names"), False)

    def test_refusal_causes(self):
        c = check(read_program(FOUR))
        self.assertEqual(refusal_causes(c), ((("A", True),), (("B", True),)))
        self.assertEqual(refusal_causes(c, "names"), ((("A", True), ("B", True)),))
        self.assertEqual(refusal_causes(c, "types"), ((("A", True), ("B", False)),))
        self.assertEqual(refusal_causes(c, "cases"), ((("A", False), ("B", True)),))
        self.assertEqual(refusal_causes(c, "cases", "names"), ((("B", True),),))
        self.assertEqual(refusal_causes(c, "cases", "names", "types"), refusal_causes(c))
        self.assertEqual(refusal_causes(check(read_program("(program (main 1))"))), ())
        self.assertEqual(refusal_causes(check(read_program("(program (main x))"))), ((),))
        self.assertEqual(refusal_causes(check(read_program("(program (main x))")), "types", "cases"), ())

    def test_deciding_switches(self):
        self.assertEqual(deciding_switches(check(read_program(FOUR))), ("A", "B"))
        self.assertEqual(deciding_switches(check(read_program("(program (main (choose B x (choose A 1 true))))"))), ("B",))
        self.assertEqual(deciding_switches(check(read_program("(program (main (choose B x (choose A 1 (app 1 2)))))"))), ("A", "B"))
        self.assertEqual(deciding_switches(check(read_program("(program (main (choose B 1 true)))"))), ())
        # Which of two ways it is refused does not matter.
        self.assertEqual(deciding_switches(check(read_program("(program (main (choose B x (app 1 2))))"))), ())

    def compare(self, tree):
        before = copy.deepcopy(tree)
        c = check(tree)
        stage = {s: verdict_at(check(chosen(tree, s)), ())[0] for s in every_setting(c.switches)}
        for words in ((), ("names",), ("types",), ("cases",), ("types", "names"), REFUSALS):
            condition = stage_condition(c, *words)
            self.assertTrue(is_condition(condition))
            for s in stage:
                self.assertEqual(holds_slowly(condition, s), stage[s] in words)
            wanted = condition_from(lambda s, words=words: stage[s] in (words or REFUSALS), c.switches)
            self.assertEqual(refusal_causes(c, *words), causes_slowly(wanted, c.switches))
        turned = lambda s, x: tuple(sorted({*s} ^ {x}))
        wanted = [x for x in c.switches if any((stage[s] == "fits") != (stage[turned(s, x)] == "fits") for s in stage)]
        self.assertEqual(deciding_switches(c), tuple(wanted))
        self.assertEqual(tree, before)

    def test_random(self):
        for seed in range(120):
            chance = random.Random(seed)
            self.compare(Programs(chance, ("A", "B", "C")[:1 + seed % 3], (1, 2), chance.choice([0.01, 0.03]), 0.2,
                                  seed % 2).program(chance.randint(0, 4), chance.randint(2, 5)))
        for seed in range(150):
            self.compare(BareTerms(random.Random(seed), ("A", "B", "C"), (1,)).program())


if __name__ == "__main__":
    unittest.main()
