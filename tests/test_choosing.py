"""[3.1] to [3.6]: choosing, keeping marks, conditions of nodes, and edits."""

import copy
import random
import unittest

from eacharm.choosing import (
    chosen, kept_only, marks_in, node_conditions, partly, put_at, same_choice, switches_in,
)
from eacharm.errors import NoPlace
from eacharm.trees import all_nodes, node_at, node_sorts
from samples import EDITS, PLACES, Trees, chosen_slowly, kept_slowly, sorted_nodes
from settings import condition_from, every_setting, holds_slowly, is_condition

SWITCHES = ("A", "B", "C")
# (program (main (choose A 1 (mark 1 true))))
SMALL = ("program", 0, (), ("choose", 1, "A", ("number", 2, 1), ("mark", 3, 1, ("truth", 4, True))))


def programs(many=60, depth=4):
    yield PLACES
    yield SMALL
    for seed in range(many):
        yield Trees(random.Random(seed)).program(depth=depth)


class Choosing(unittest.TestCase):
    def test_example(self):
        self.assertEqual(chosen(SMALL, ["A"]), ("program", 0, (), ("number", 2, 1)))
        self.assertEqual(
            chosen(SMALL, []), ("program", 0, (), ("mark", 3, 1, ("truth", 4, True))))

    def test_every_place(self):
        done = chosen(PLACES, ["A"])
        self.assertEqual(done, ("program", 0, (
            ("data", 1, "d", ("a",), (("maker", 2, "c", ("int", 4)), ("maker", 8, "e", ("bool", 9)))),
            ("def", 16, "g", ("truth", 17, True)),
            ("sig", 18, "s", (("hide", 19, "t"), ("val", 21, "x", ("a",), ("named", 22, "a")))),
            ("functor", 24, "f", "y", "s", (("alias", 25, "t", ("int", 26)),), ()),
            ("module", 32, "m", ("apply", 34, "f", "n"), None),
            ("defrec", 39, (("p", ("fn", 40, "x", ("mark", 43, 1, ("number", 44, 2)))),)),
        ), ("match", 45, ("number", 48, 1), (
            ("arm", 55, ("any", 58), ("name", 59, "z")),
            ("arm", 65, ("name", 66, "w"), ("case", 67, ("name", 68, "w"), (
                ("l", "x", ("name", 71, "w")),), ("z", ("mark", 72, 4, ("name", 73, "z"))))),
        ))))

    def test_groups_become_empty(self):
        done = chosen(PLACES, ["B"])
        self.assertEqual(done[3][3], (("arm", 55, ("number", 57, 0), ("name", 59, "z")),))
        program = ("program", 0, (("when", 1, "A", (), (("def", 2, "x", ("hole", 3)),)),), ("match", 4, (
            "hole", 5), (("when", 6, "A", (), (("arm", 7, ("any", 8), ("hole", 9)),)),)))
        self.assertEqual(chosen(program, ("A",)), ("program", 0, (), ("match", 4, ("hole", 5), ())))

    def test_all_settings(self):
        for program in programs():
            for setting in every_setting((*SWITCHES, "Z")):
                done = chosen(program, setting)
                self.assertEqual(done, chosen_slowly(program, setting))
                self.assertEqual(done, chosen(program, [*setting[::-1], *setting, "Other", "m1"]))
                self.assertEqual(switches_in(done), ())
                self.assertEqual(chosen(done, setting), done)

    def test_same_switch_inside(self):
        inner = ("choose", 2, "A", ("number", 3, 1), ("number", 4, 2))
        program = ("program", 0, (), ("choose", 1, "A", ("number", 5, 0), inner))
        self.assertEqual(chosen(program, ()), ("program", 0, (), ("number", 4, 2)))
        self.assertEqual(chosen(program, ("A",)), ("program", 0, (), ("number", 5, 0)))

    def test_partly(self):
        chance = random.Random(1)
        for program in programs(40):
            for setting in every_setting(SWITCHES):
                decided = chance.sample((*SWITCHES, "Z"), chance.randint(0, 4))
                pairs = [(name, name in setting) for name in decided]
                half = partly(program, pairs)
                self.assertEqual(partly(program, tuple(pairs)), half)
                self.assertEqual(chosen(half, setting), chosen_slowly(program, setting))
                self.assertEqual(
                    [name for name in switches_in(half) if name in decided], [])
                self.assertEqual(
                    chosen(half, [name for name in SWITCHES if name not in decided]),
                    chosen(program, [name for name in SWITCHES if (
                        name in setting if name in decided else True)]))

    def test_partly_leaves_the_rest(self):
        self.assertEqual(partly(PLACES, []), PLACES)
        self.assertEqual(partly(PLACES, [("Z", True)]), PLACES)
        program = ("program", 0, (), ("choose", 1, "A", ("choose", 2, "B", ("hole", 3), ("hole", 4)),
                                      ("choose", 5, "B", ("hole", 6), ("hole", 7))))
        self.assertEqual(partly(program, [("B", False)]), ("program", 0, (), (
            "choose", 1, "A", ("hole", 4), ("hole", 7))))
        self.assertEqual(partly(program, [("A", True)]), ("program", 0, (), (
            "choose", 2, "B", ("hole", 3), ("hole", 4))))
        rows = (("when", 1, "A", (("when", 2, "B", (("def", 3, "x", ("hole", 4)),), ()),), ()),)
        self.assertEqual(partly(("program", 0, rows, ("hole", 5)), [("A", True)])[2], rows[0][3])
        self.assertEqual(partly(("program", 0, rows, ("hole", 5)), [("B", True)])[2], (
            ("when", 1, "A", (("def", 3, "x", ("hole", 4)),), ()),))


class Marks(unittest.TestCase):
    def test_example(self):
        self.assertEqual(kept_only(chosen(SMALL, []), []), ("program", 0, (), ("hole", 3)))
        self.assertEqual(kept_only(chosen(SMALL, []), [1]), ("program", 0, (), ("truth", 4, True)))

    def test_marks_in_marks(self):
        program = ("program", 0, (), ("mark", 1, 5, ("mark", 2, 3, ("truth", 3, True))))
        for marks, done in (((), ("hole", 1)), ([3], ("hole", 1)), ((5,), ("hole", 2)),
                            ([5, 3, 5], ("truth", 3, True)), ([1, 2], ("hole", 1))):
            self.assertEqual(kept_only(program, marks), ("program", 0, (), done))

    def test_all_lots(self):
        for program in programs(40):
            marks = marks_in(program)
            for lot in every_setting((*marks, 6)):
                done = kept_only(program, lot)
                self.assertEqual(done, kept_slowly(program, lot))
                self.assertEqual(done, kept_only(program, [*lot[::-1], *lot]))
                self.assertEqual(marks_in(done), ())

    def test_commutes(self):
        chance = random.Random(2)
        for program in programs(40):
            for setting in every_setting(SWITCHES):
                lot = [k for k in marks_in(program) if chance.random() < 0.5]
                left = kept_only(chosen(program, setting), lot)
                self.assertEqual(left, chosen(kept_only(program, lot), setting))
                pairs = [("B", "B" in setting)]
                self.assertEqual(
                    kept_only(partly(program, pairs), lot), partly(kept_only(program, lot), pairs))


class Conditions(unittest.TestCase):
    def test_switches_and_marks(self):
        self.assertEqual(switches_in(PLACES), ("A", "B", "C"))
        self.assertEqual(marks_in(PLACES), (1, 2, 3, 4))
        self.assertEqual(switches_in(("program", 0, (), ("hole", 1))), ())
        self.assertEqual(marks_in(("program", 0, (), ("hole", 1))), ())
        for program in programs():
            nodes = [node for _, node in sorted_nodes(program)]
            choices = {node[2] for node in nodes if node[0] in ("choose", "when")}
            self.assertEqual(switches_in(program), tuple(sorted(choices)))
            marks = {node[2] for node in nodes if node[0] == "mark"}
            self.assertEqual(marks_in(program), tuple(sorted(marks)))

    def test_edits_are_switches(self):
        program = put_at(SMALL, 4, "e2", ("hole", 0))
        self.assertEqual(switches_in(program), ("A", "e2"))

    def test_node_conditions_by_hand(self):
        a, b = ("A", True, False), ("B", True, False)
        found = node_conditions(PLACES)
        told = {0: True, 3: True, 4: a, 5: ("A", False, True), 6: ("A", False, True), 7: True, 8: a,
                10: True, 12: b, 15: ("B", False, True), 17: ("A", ("B", False, True), False),
                46: True, 47: a, 48: a, 49: False, 50: ("A", False, True), 60: True, 61: b,
                62: ("A", b, False), 65: ("B", False, True), 70: ("B", False, ("C", True, False))}
        self.assertEqual({number: found[number] for number in told}, told)

    def test_node_conditions(self):
        for program in programs():
            found = node_conditions(program)
            nodes = [node for _, node in sorted_nodes(program)]
            self.assertEqual(sorted(found), sorted(node[1] for node in nodes))
            there = {s: {n[1] for _, n in sorted_nodes(chosen_slowly(program, s))}
                     for s in every_setting(SWITCHES)}
            for node in nodes:
                self.assertTrue(is_condition(found[node[1]]))
                if node[0] not in ("choose", "when"):
                    for s in there:
                        self.assertIs(holds_slowly(found[node[1]], s), node[1] in there[s])

    def test_conditions_of_choices(self):
        # A choice has the condition of its place, whatever it chooses.
        for program in programs(30):
            found = node_conditions(program)
            for node in all_nodes(program):
                if node[0] == "choose":
                    self.assertEqual(found[node[3][1]], joined(found[node[1]], node[2], True))
                    self.assertEqual(found[node[4][1]], joined(found[node[1]], node[2], False))
                if node[0] == "when":
                    for row in node[3]:
                        self.assertEqual(found[row[1]], joined(found[node[1]], node[2], True))

    def test_same_choice(self):
        for program in programs():
            trees = {s: chosen_slowly(program, s) for s in every_setting(SWITCHES)}
            for s in trees:
                right = condition_from(lambda t: trees[tuple(sorted(t))] == trees[s], SWITCHES)
                self.assertEqual(same_choice(program, s), right)
                self.assertEqual(same_choice(program, [*s, "Z", *s]), right)

    def test_same_choice_of_empty_groups(self):
        program = ("program", 0, (("when", 1, "A", (), ()), ("when", 2, "B", (), (
            ("def", 3, "x", ("hole", 4)),))), ("hole", 5))
        self.assertEqual(same_choice(program, ["A"]), ("B", False, True))
        self.assertEqual(same_choice(program, ["B"]), ("B", True, False))

    def test_dict_is_new(self):
        node_conditions(PLACES).clear()
        self.assertEqual(len(node_conditions(PLACES)), 74)


def joined(condition, switch, on):
    return condition_from(
        lambda s: holds_slowly(condition, s) and (switch in s) == on, (*SWITCHES, switch))


class Edits(unittest.TestCase):
    def test_example(self):
        self.assertEqual(put_at(SMALL, 2, "e1", ("number", 0, 7)), ("program", 0, (), (
            "choose", 1, "A", ("choose", 5, "e1", ("number", 6, 7), ("number", 2, 1)),
            ("mark", 3, 1, ("truth", 4, True)))))

    def test_main_and_choices(self):
        done = put_at(SMALL, 1, "e3", ("app", 50, ("name", 7, "f"), ("hole", 2)))
        self.assertEqual(done, ("program", 0, (), ("choose", 5, "e3", (
            "app", 6, ("name", 7, "f"), ("hole", 8)), SMALL[3])))
        self.assertEqual(put_at(SMALL, 3, "e9", ("hole", 0))[3][4], (
            "choose", 5, "e9", ("hole", 6), SMALL[3][4]))

    def test_several_at_one_node(self):
        one = put_at(SMALL, 2, "e2", ("number", 0, 7))
        two = put_at(one, 2, "e1", ("number", 0, 8))
        three = put_at(two, 2, "e5", ("number", 0, 9))
        self.assertEqual(three[3][3], ("choose", 9, "e5", ("number", 10, 9), (
            "choose", 7, "e1", ("number", 8, 8), (
                "choose", 5, "e2", ("number", 6, 7), ("number", 2, 1)))))

    def test_inside_a_new_text(self):
        one = put_at(SMALL, 2, "e1", ("app", 0, ("hole", 1), ("hole", 2)))
        two = put_at(one, 8, "e2", ("truth", 0, True))
        new = ("choose", 5, "e1", ("app", 6, ("hole", 7), (
            "choose", 9, "e2", ("truth", 10, True), ("hole", 8))), ("number", 2, 1))
        self.assertEqual(two[3][3], new)
        # The whole new text: the choice of e1 does not lie over it.
        three = put_at(one, 6, "e2", ("truth", 0, True))
        self.assertEqual(three[3][3][3], ("choose", 9, "e2", ("truth", 10, True), one[3][3][3]))
        self.assertEqual(three[3][3][4], ("number", 2, 1))

    def test_inside_what_is_replaced(self):
        one = put_at(SMALL, 3, "e1", ("hole", 0))
        two = put_at(one, 4, "e2", ("number", 0, 1))
        self.assertEqual(two[3][4], ("choose", 5, "e1", ("hole", 6), ("mark", 3, 1, (
            "choose", 7, "e2", ("number", 8, 1), ("truth", 4, True)))))

    def test_declarations(self):
        one = put_at(PLACES, 11, "e1", (("def", 5, "x", ("hole", 6)), ("def", 0, "y", ("hole", 1))))
        group = (("when", 74, "e1", (("def", 75, "x", ("hole", 76)), ("def", 77, "y", ("hole", 78))), (
            ("def", 11, "g", ("number", 12, 1)),)), ("def", 13, "h", ("hole", 14)))
        self.assertEqual(node_at(one, 10), ("when", 10, "B", group, node_at(PLACES, 10)[4]))
        two = put_at(one, 11, "e2", ())
        self.assertEqual(node_at(two, 10)[3][0], ("when", 79, "e2", (), (group[0],)))
        three = put_at(two, 75, "e3", ())
        self.assertEqual(node_at(three, 74)[3][0], (
            "when", 80, "e3", (), (("def", 75, "x", ("hole", 76)),)))

    def test_declarations_at_each_group(self):
        for number in (1, 10, 11, 15, 18, 24, 25, 27, 28, 32, 36, 37, 39):
            done = put_at(PLACES, number, "e4", ())
            self.assertEqual(node_at(done, 74), ("when", 74, "e4", (), (node_at(PLACES, number),)))
            self.assertEqual(partly(done, [("e4", False)]), PLACES)

    def test_second_group_of_more(self):
        # e1 does not lie over the two declarations that its when comes to hold.
        inner = ("when", 1, "A", (("def", 2, "x", ("hole", 3)), ("def", 4, "y", ("hole", 5))), ())
        one = put_at(("program", 0, (inner,), ("hole", 6)), 1, "e1", ())
        half = partly(one, [("A", True)])
        two = put_at(half, 2, "e2", ())
        self.assertEqual(two[2], (("when", 7, "e1", (), (
            ("when", 8, "e2", (), (inner[3][0],)), inner[3][1])),))

    def test_numbers(self):
        program = ("program", 0, (("def", 90, "x", ("hole", 7)),), ("name", 3, "x"))
        done = put_at(program, 3, "e1", ("tuple", 3, (("hole", 3), ("name", 90, "x"))))
        self.assertEqual(done[3], ("choose", 91, "e1", (
            "tuple", 92, (("hole", 93), ("name", 94, "x"))), ("name", 3, "x")))

    def test_no_place(self):
        laid = put_at(put_at(PLACES, 11, "e1", ()), 45, "e2", ("hole", 0))
        self.assertEqual([node_at(laid, k)[0] for k in (74, 75)], ["when", "choose"])
        for number in (-1, 77, 1000, 0, 2, 3, 4, 7, 19, 20, 22, 33, 34, 35, 55, 56, 57, 60, 61, 62, 74, 75):
            with self.assertRaises(NoPlace) as caught:
                put_at(laid, number, "e3", ())
            self.assertEqual(caught.exception.number, number)

    def test_every_place(self):
        for program in (PLACES, SMALL):
            self.every_place(program)
        for seed in range(12):
            self.every_place(Trees(random.Random(seed)).program(depth=3))

    def every_place(self, program):
        sorts = node_sorts(program)
        top = max(sorts)
        for number in sorts:
            new = {"expression": ("fn", 5, "x", ("hole", 5)), "declaration": (
                ("def", 0, "x", ("hole", 1)), ("def", 2, "y", ("hole", 3)))}.get(sorts[number])
            if new is None:
                with self.assertRaises(NoPlace):
                    put_at(program, number, "e1", new)
                continue
            done = put_at(program, number, "e1", new)
            self.assertEqual(partly(done, [("e1", False)]), program)
            on = {n[1] for n in all_nodes(partly(done, [("e1", True)]))}
            gone = {n[1] for n in all_nodes(node_at(program, number))}
            new_numbers = {top + 2, top + 3} | (
                {top + 4, top + 5} if sorts[number] == "declaration" else set())
            self.assertEqual(on, set(sorts) - gone | new_numbers)

    def test_many_edits(self):
        for seed in range(40):
            chance = random.Random(seed)
            program = Trees(chance).program(depth=2)
            laid, before = program, []
            for switch in chance.sample(EDITS, 5):
                sorts = node_sorts(laid)
                edits = {n[1] for n in all_nodes(laid) if n[0] in ("choose", "when") and n[2] in EDITS}
                number = chance.choice([k for k in sorts if k not in edits and sorts[k] in (
                    "expression", "declaration")])
                new = ("tuple", 0, (("hole", 1), ("truth", 2, True)))
                if sorts[number] == "declaration":
                    new = (("def", 0, "x", ("hole", 1)),) * chance.randint(0, 1)
                before.append((switch, laid))
                laid = put_at(laid, number, switch, new)
            for switch, earlier in before[::-1]:
                laid = partly(laid, ((switch, False),))
                self.assertEqual(laid, earlier)
            self.assertEqual(laid, program)

    def test_no_argument_is_changed(self):
        setting, pairs, marks = ["B", "A", "B"], [["A", True], ["C", False]], [3, 1, 3]
        new = (("def", 3, "x", ("hole", 3)),)
        before = copy.deepcopy((PLACES, setting, pairs, marks, new))
        chosen(PLACES, setting)
        partly(PLACES, pairs)
        kept_only(PLACES, marks)
        same_choice(PLACES, setting)
        put_at(PLACES, 11, "e1", new)
        self.assertEqual((PLACES, setting, pairs, marks, new), before)


if __name__ == "__main__":
    unittest.main()
