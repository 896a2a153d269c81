"""[2.1] and [2.9], with the forms of [2.2] to [2.5]."""

import random
import unittest

from eacharm.errors import NoNode
from eacharm.trees import all_nodes, inner_nodes, node_at, node_sorts, renumbered
from samples import FORMS, PLACES, Trees, parts, sorted_nodes

# One tree of each form, its inner nodes in reading order, and their sorts.
EXPRESSIONS = [
    (("name", 9, "x"), (), ""),
    (("number", 9, -3), (), ""),
    (("truth", 9, True), (), ""),
    (("truth", 9, False), (), ""),
    (("hole", 9), (), ""),
    (("fn", 9, "x", "E1"), (1,), "E"),
    (("app", 9, "E1", "E2"), (1, 2), "EE"),
    (("let", 9, "x", "E1", "E2"), (1, 2), "EE"),
    (("rec", 9, (("f", "E1"), ("g", "E2")), "E3"), (1, 2, 3), "EEE"),
    (("if", 9, "E1", "E2", "E3"), (1, 2, 3), "EEE"),
    (("op", 9, "+", "E1", "E2"), (1, 2), "EE"),
    (("tuple", 9, ("E1", "E2", "E3", "E4")), (1, 2, 3, 4), "EEEE"),
    (("record", 9, ()), (), ""),
    (("record", 9, (("l", "E1"), ("m", "E2"))), (1, 2), "EE"),
    (("get", 9, "l", "E1"), (1,), "E"),
    (("extend", 9, "l", "E1", "E2"), (1, 2), "EE"),
    (("update", 9, "l", "E1", "E2"), (1, 2), "EE"),
    (("without", 9, "l", "E1"), (1,), "E"),
    (("tag", 9, "l", "E1"), (1,), "E"),
    (("case", 9, "E1", (("l", "x", "E2"), ("m", "y", "E3")), None), (1, 2, 3), "EEE"),
    (("case", 9, "E1", (("l", "x", "E2"),), ("z", "E3")), (1, 2, 3), "EEE"),
    (("make", 9, "c", "E1"), (1,), "E"),
    (("match", 9, "E1", (("arm", 2, "P3", "E4"), ("when", 5, "A", (), ()))), (1, 2, 5), "Eaa"),
    (("match", 9, "E1", ()), (1,), "E"),
    (("cell", 9, "T1", "E2"), (1, 2), "TE"),
    (("read", 9, "E1"), (1,), "E"),
    (("write", 9, "E1", "E2"), (1, 2), "EE"),
    (("is", 9, "E1", "T2"), (1, 2), "ET"),
    (("choose", 9, "A", "E1", "E2"), (1, 2), "EE"),
    (("mark", 9, 2, "E1"), (1,), "E"),
    (("member", 9, "m", "x"), (), ""),
]
OTHERS = [
    ("arm", ("arm", 9, "P1", "E2"), (1, 2), "PE"),
    ("arm", ("when", 9, "A", (("arm", 1, "P2", "E3"),), (("arm", 4, "P5", "E6"),)), (1, 4), "aa"),
    ("pattern", ("any", 9), (), ""),
    ("pattern", ("name", 9, "x"), (), ""),
    ("pattern", ("number", 9, 0), (), ""),
    ("pattern", ("truth", 9, True), (), ""),
    ("pattern", ("tuple", 9, ("P1", "P2")), (1, 2), "PP"),
    ("pattern", ("record", 9, (("l", "P1"), ("m", "P2"))), (1, 2), "PP"),
    ("pattern", ("make", 9, "c", "P1"), (1,), "P"),
    ("pattern", ("choose", 9, "A", "P1", "P2"), (1, 2), "PP"),
    ("written", ("int", 9), (), ""),
    ("written", ("bool", 9), (), ""),
    ("written", ("arrow", 9, "T1", "T2"), (1, 2), "TT"),
    ("written", ("tuple", 9, ("T1", "T2")), (1, 2), "TT"),
    ("written", ("record", 9, (("l", "T1"),)), (1,), "T"),
    ("written", ("variant", 9, (("l", "T1"), ("m", "T2"))), (1, 2), "TT"),
    ("written", ("of", 9, "d", ()), (), ""),
    ("written", ("of", 9, "d", ("T1", "T2")), (1, 2), "TT"),
    ("written", ("cell", 9, "T1"), (1,), "T"),
    ("written", ("named", 9, "t"), (), ""),
    ("written", ("from", 9, "m", "t"), (), ""),
    ("written", ("choose", 9, "A", "T1", "T2"), (1, 2), "TT"),
    ("declaration", ("data", 9, "d", ("a", "b"), (("maker", 1, "c", "T2"),)), (1,), "m"),
    ("declaration", ("data", 9, "d", ("a",), ()), (), ""),
    ("declaration", ("def", 9, "x", "E1"), (1,), "E"),
    ("declaration", ("defrec", 9, (("f", "E1"), ("g", "E2"))), (1, 2), "EE"),
    ("declaration", ("sig", 9, "s", (("hide", 1, "t"), ("when", 2, "A", (), ()))), (1, 2), "ii"),
    ("declaration", ("module", 9, "m", ("struct", 1, ()), None), (1,), "b"),
    ("declaration", ("module", 9, "m", ("apply", 1, "f", "n"), "s"), (1,), "b"),
    ("declaration", ("functor", 9, "f", "x", "s", (("def", 1, "y", "E2"),), (("hide", 3, "t"),)),
     (1, 3), "di"),
    ("declaration", ("alias", 9, "t", "T1"), (1,), "T"),
    ("declaration", ("when", 9, "A", (("def", 1, "x", "E2"),), (("alias", 3, "t", "T4"),)),
     (1, 3), "dd"),
    ("maker", ("maker", 9, "c", "T1"), (1,), "T"),
    ("maker", ("when", 9, "A", (("maker", 1, "c", "T2"),), ()), (1,), "m"),
    ("item", ("hide", 9, "t"), (), ""),
    ("item", ("val", 9, "x", ("a", "b"), "T1"), (1,), "T"),
    ("item", ("when", 9, "A", (), (("hide", 1, "t"),)), (1,), "i"),
    ("body", ("struct", 9, (("def", 1, "x", "E2"), ("when", 3, "A", (), ()))), (1, 3), "dd"),
    ("body", ("apply", 9, "f", "m"), (), ""),
    ("body", ("choose", 9, "A", ("struct", 1, ()), ("apply", 2, "f", "m")), (1, 2), "bb"),
]
SORTS = {"E": "expression", "P": "pattern", "T": "written", "a": "arm", "m": "maker", "i": "item",
         "d": "declaration", "b": "body"}
AROUND = {
    "expression": lambda node: ("program", 0, (), node),
    "arm": lambda node: ("program", 0, (), ("match", 100, ("hole", 101), (node,))),
    "pattern": lambda node: AROUND["arm"](("arm", 102, node, ("hole", 103))),
    "written": lambda node: ("program", 0, (), ("is", 100, ("hole", 101), node)),
    "declaration": lambda node: ("program", 0, (node,), ("hole", 100)),
    "maker": lambda node: AROUND["declaration"](("data", 101, "d", ("a",), (node,))),
    "item": lambda node: AROUND["declaration"](("sig", 101, "s", (node,))),
    "body": lambda node: AROUND["declaration"](("module", 101, "m", node, None)),
}


def filled(thing):
    """Puts nodes in the place of the words E1, P2, T3 .."""
    if isinstance(thing, tuple):
        return tuple(filled(part) for part in thing)
    if isinstance(thing, str) and len(thing) == 2 and thing[0] in "EPT":
        return ({"E": "hole", "P": "any", "T": "int"}[thing[0]], int(thing[1]))
    return thing


def forms():
    for tree, numbers, sorts in EXPRESSIONS:
        yield "expression", filled(tree), numbers, sorts
    for sort, tree, numbers, sorts in OTHERS:
        yield sort, filled(tree), numbers, sorts


def random_programs(many=60):
    for seed in range(many):
        yield Trees(random.Random(seed)).program()


class Forms(unittest.TestCase):
    def test_every_form_is_here(self):
        here = {(sort, tree[0]) for sort, tree, _, _ in forms()}
        every = {(sort, word) for sort in FORMS for word in FORMS[sort] if sort != "program"}
        self.assertEqual(here, every)

    def test_inner_nodes(self):
        for sort, tree, numbers, _ in forms():
            inner = inner_nodes(tree)
            self.assertIsInstance(inner, tuple)
            self.assertEqual(tuple(node[1] for node in inner), numbers, tree)
            self.assertEqual(inner, tuple(node for _, node in parts(tree, sort)))

    def test_all_nodes(self):
        for sort, tree, _, _ in forms():
            self.assertEqual(all_nodes(tree), tuple(node for _, node in sorted_nodes(tree, sort)))

    def test_sorts(self):
        for sort, tree, numbers, sorts in forms():
            program = AROUND[sort](tree)
            found = node_sorts(program)
            self.assertEqual(found[0], "program")
            self.assertEqual(found[9], sort, tree)
            for number, letter in zip(numbers, sorts):
                self.assertEqual(found[number], SORTS[letter], tree)
            self.assertEqual(found, {node[1]: s for s, node in sorted_nodes(program)})

    def test_names_like_words(self):
        # Names may be the words of forms; they are no nodes.
        tree = ("data", 1, "when", ("choose", "mark"), (("maker", 2, "when", ("named", 3, "int1")),))
        self.assertEqual([node[1] for node in all_nodes(tree)], [1, 2, 3])
        tree = ("record", 1, (("choose", ("hole", 2)), ("when", ("hole", 3))))
        self.assertEqual([node[1] for node in inner_nodes(tree)], [2, 3])
        tree = ("case", 1, ("hole", 2), (("when", "choose", ("hole", 3)),), ("mark", ("hole", 4)))
        self.assertEqual([node[1] for node in inner_nodes(tree)], [2, 3, 4])


class Programs(unittest.TestCase):
    def test_reading_order(self):
        self.assertEqual([node[1] for node in all_nodes(PLACES)], list(range(74)))
        for program in random_programs():
            right = [node for _, node in sorted_nodes(program)]
            self.assertEqual(all_nodes(program), tuple(right))
            self.assertEqual(inner_nodes(program), (*program[2], program[3]))

    def test_renumbered(self):
        self.assertEqual(renumbered(PLACES), PLACES)
        for program in random_programs():
            done = renumbered(program)
            numbers = [node[1] for node in all_nodes(done)]
            self.assertEqual(numbers, list(range(len(numbers))))
            self.assertEqual(with_numbers(done, [n[1] for n in all_nodes(program)]), program)
            self.assertEqual(renumbered(done), done)

    def test_renumbered_by_hand(self):
        program = ("program", 0, (("def", 7, "x", ("truth", 3, True)),), ("op", 9, "+", ("number", 2, 7),
                                                                     ("number", 5, 3)))
        self.assertEqual(renumbered(program), (
            "program", 0, (("def", 1, "x", ("truth", 2, True)),),
            ("op", 3, "+", ("number", 4, 7), ("number", 5, 3))))

    def test_node_at(self):
        for program in (PLACES, *random_programs(20)):
            for node in all_nodes(program):
                self.assertEqual(node_at(program, node[1]), node)

    def test_no_node(self):
        for number in (74, -1, 1000, 4001):
            with self.assertRaises(NoNode) as caught:
                node_at(PLACES, number)
            self.assertEqual(caught.exception.number, number)
        # A number that stands in a tree without being a node's is none.
        with self.assertRaises(NoNode):
            node_at(("program", 0, (), ("number", 1, 7)), 7)
        with self.assertRaises(NoNode):
            node_at(("program", 0, (), ("mark", 1, 2, ("hole", 3))), 2)

    def test_sorts(self):
        for program in (PLACES, *random_programs()):
            right = {node[1]: sort for sort, node in sorted_nodes(program)}
            self.assertEqual(node_sorts(program), right)

    def test_sorts_of_choices(self):
        sorts = node_sorts(PLACES)
        told = {3: "written", 7: "maker", 10: "declaration", 15: "declaration", 20: "item",
                27: "declaration", 30: "item", 33: "body", 36: "declaration", 41: "expression",
                46: "expression", 47: "expression", 52: "expression", 56: "pattern", 60: "arm",
                61: "arm", 62: "arm", 69: "expression"}
        self.assertEqual({number: sorts[number] for number in told}, told)

    def test_dicts_are_new(self):
        node_sorts(PLACES).clear()
        self.assertEqual(len(node_sorts(PLACES)), 74)

    def test_deep_trees(self):
        tree = ("hole", 1)
        for at in range(60):
            tree = ("case", 2 * at + 2, ("hole", 2 * at + 3), (("l", "x", tree),), None)
        program = ("program", 0, (), tree)
        self.assertEqual(len(all_nodes(program)), 122)
        self.assertEqual(all_nodes(renumbered(program))[-1], ("hole", 121))
        self.assertEqual(node_sorts(program)[1], "expression")


def with_numbers(tree, numbers):
    """The tree with other numbers, in reading order."""
    left = iter(numbers)

    def walk(thing):
        if not isinstance(thing, tuple):
            return thing
        if len(thing) > 1 and isinstance(thing[0], str) and type(thing[1]) is int:
            return (thing[0], next(left), *[walk(part) for part in thing[2:]])
        return tuple([walk(part) for part in thing])

    return walk(tree)


if __name__ == "__main__":
    unittest.main()
