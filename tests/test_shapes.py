"""Part 9: shapes, matching, missing shapes, needless arms, and all of it under choices."""

import copy
import random
import unittest

from eacharm.choosing import chosen
from eacharm.conditions import holds
from eacharm.reader import read_expression, read_program
from eacharm.shapes import (
    arms_at, bindings_of, cases_table, makers_in, match_shapes, missing_shape, needless_arms, needless_places,
    shape_text)
from eacharm.tables import value_at
from eacharm.trees import all_nodes
from plainshapes import matches, plain_missing, plain_needless, stands_for, values_of
from programs import Programs
from samples import PLACES, Trees
from settings import every_setting, is_condition, table_faults

A_ON, A_OFF = ("A", True, False), ("A", False, True)


def pattern(text):
    return read_expression(f"(match 0 ({text} 0))")[3][0][2]


def patterns(*texts):
    return [pattern(text) for text in texts]


class Matching(unittest.TestCase):
    def test_example(self):
        told = ("tuple", (("number", 1), ("truth", True)))
        one = ("tuple", 1, (("number", 2, 1), ("name", 3, "x")))
        self.assertEqual(bindings_of(one, told), (("x", ("truth", True)),))

    VALUES = [("number", 1), ("number", 0), ("number", -1), ("truth", True), ("truth", False),
              ("tuple", (("number", 1), ("number", 2))), ("tuple", (("number", 1),) * 3), ("record", ()),
              ("record", (("l", ("number", 1)),)), ("record", (("l", ("number", 1)), ("m", ("truth", True)))),
              ("tag", "l", ("number", 1)), ("make", "c", ("number", 1)), ("make", "d", ("number", 1)),
              ("cell", ("number", 1)), ("fn",), ("deep",)]

    def test_every_other_pair_does_not_match(self):
        rows = [("_", range(16)), ("x", range(16)), ("1", [0]), ("0", [1]), ("-1", [2]), ("true", [3]), ("false", [4]),
                ("(tuple _ 2)", [5]), ("(tuple 1 3)", []), ("(tuple 1 _ 1)", [6]), ("(record)", [7, 8, 9]),
                ("(record (l 1))", [8, 9]), ("(record (l 2))", []), ("(record (m true) (l _))", [9]),
                ("(make c 1)", [11]), ("(make c 2)", []), ("(make d _)", [12]), ("(make l 1)", [])]
        for text, good in rows:
            for at, told in enumerate(self.VALUES):
                found = bindings_of(pattern(text), told)
                self.assertEqual(found is not None, at in good, (text, told))
                self.assertIn(type(found), (tuple, type(None)))

    def test_bindings_from_left_to_right(self):
        told = ("record", (("l", ("tuple", (("fn",), ("number", 2)))), ("m", ("make", "c", ("deep",)))))
        self.assertEqual(bindings_of(pattern("(record (m (make c a)) (l (tuple b c)))"), told),
                         (("a", ("deep",)), ("b", ("fn",)), ("c", ("number", 2))))
        self.assertEqual(bindings_of(pattern("x"), ("fn",)), (("x", ("fn",)),))
        self.assertEqual(bindings_of(pattern("_"), ("fn",)), ())

    def test_a_name_twice(self):
        told = ("tuple", (("number", 1), ("number", 2)))
        self.assertEqual(bindings_of(pattern("(tuple x x)"), told), (("x", ("number", 1)), ("x", ("number", 2))))

    def test_truths_are_no_numbers(self):
        self.assertIsNone(bindings_of(pattern("1"), ("truth", True)))
        self.assertIsNone(bindings_of(pattern("true"), ("number", 1)))


class Walk(unittest.TestCase):
    def test_examples(self):
        one = [("make", 1, "c", ("number", 2, 0)), ("make", 3, "d", ("any", 4))]
        self.assertEqual(missing_shape(one, [("c", "d")]), ("make", "c", ("number", 1)))
        two = [("tuple", 1, (("truth", 2, False), ("any", 3))), ("tuple", 4, (("any", 5), ("truth", 6, True)))]
        self.assertEqual(missing_shape(two, []), ("tuple", (("truth", True), ("truth", False))))
        three = [("truth", 1, True), ("truth", 2, False), ("any", 3), ("truth", 4, True)]
        self.assertEqual(needless_places(three, []), (2, 3))
        self.assertEqual(shape_text(("make", "c", ("tuple", (("any",), ("truth", False))))), "(make c (tuple _ false))")

    def missing(self, texts, shape, makers=(), within=None):
        target = None if within is None else pattern(within)
        for kind in (list, tuple):
            found = missing_shape(kind(patterns(*texts)), kind(makers), within=target)
            self.assertEqual(None if found is None else shape_text(found), shape, texts)

    def test_each_kind(self):
        self.missing([], "_")
        self.missing(["_"], None)
        self.missing(["x"], None)
        self.missing(["true"], "false")
        self.missing(["false"], "true")
        self.missing(["false", "true"], None)
        self.missing(["0"], "1")
        self.missing(["1"], "0")
        self.missing(["0", "1", "3", "-1"], "2")
        self.missing(["-5"], "0")
        self.missing(["0", "_"], None)
        self.missing(["(tuple _ x)"], None)
        self.missing(["(tuple 0 x)"], "(tuple 1 _)")
        self.missing(["(tuple 0 true)"], "(tuple 1 _)")
        self.missing(["(tuple 0 true)", "(tuple _ false)"], "(tuple 1 true)")
        self.missing(["(tuple _ true)", "(tuple 0 _)"], "(tuple 1 false)")
        self.missing(["(record)"], None)
        self.missing(["(record (m true))", "(record (l 0))"], "(record (l 1) (m false))")
        self.missing(["(record (m true))", "_"], None)
        self.missing(["(make c _)"], None)
        self.missing(["(make c _)"], "(make d _)", [("c", "d")])
        self.missing(["(make d _)"], "(make c _)", [("c", "d")])
        self.missing(["(make c 0)", "(make d _)"], "(make c 1)", [("c", "d")])
        self.missing(["(make c true)"], "(make c false)", [("a", "b")])

    def test_the_first_tuple_of_makers(self):
        self.missing(["(make c _)"], "(make a _)", [("b",), ("a", "c"), ("c", "d")])
        self.missing(["(make c _)"], None, [(), ("c",)])
        # The kind's constructor is that of the first pattern that is not open.
        self.missing(["_"], None, [("c", "d")])
        self.missing(["(make c _)", "(make d _)"], None, [("c",), ("d", "e")])

    def test_unlike_kinds_are_dropped(self):
        self.missing(["true", "0", "1"], "false")
        self.missing(["0", "true", "false"], "1")
        self.missing(["(tuple _ _)", "(tuple _ _ _)"], None)
        self.missing(["(tuple true _)", "(tuple _ _ _)"], "(tuple false _)")
        self.missing(["(record)", "(tuple _ _)"], None)
        self.missing(["(record (l 0))", "(tuple _ _)"], "(record (l 1))")

    def test_within(self):
        self.missing(["true"], None, within="true")
        self.missing(["true"], "false", within="_")
        self.missing(["true"], "false", within="false")
        self.missing([], "(tuple _ true)", within="(tuple x true)")
        self.missing([], "7", within="7")
        self.missing(["7"], None, within="7")
        self.missing(["(tuple 1 _)"], "(tuple 0 5)", within="(tuple _ 5)")
        self.missing(["(record (l true))"], "(record (l false) (m 0))", within="(record (m 0))")
        self.missing(["(make c 1)"], "(make c 0)", [("a", "c")], within="(make c _)")
        self.missing(["(make c 1)"], "(make a _)", [("a", "c")], within="_")
        self.missing(["0", "1"], "true", within="true")
        self.missing(["0", "_"], None, within="true")
        self.missing(["(make c _)"], "(make z _)", [("a", "c")], within="(make z _)")

    def test_needless(self):
        for texts, makers, needless in [
                ([], [], ()), (["_"], [], ()), (["_", "_"], [], (1,)), (["x", "0"], [], (1,)), (["0", "x"], [], ()),
                (["true", "false", "_"], [], (2,)), (["0", "1", "0"], [], (2,)),
                (["(tuple _ 0)", "(tuple 0 _)", "(tuple 0 0)"], [], (2,)),
                (["(make c _)", "(make d _)", "_"], [("c", "d")], (2,)),
                (["(make c _)", "(make d _)", "_"], [("c", "d", "e")], ()),
                (["(make c _)", "_"], [], (1,)), (["(record)", "(record (l 0))"], [], (1,)),
                (["(record (l 0))", "(record)"], [], ()), (["true", "1", "false"], [], ())]:
            self.assertEqual(needless_places(patterns(*texts), makers), needless, texts)
            self.assertEqual(needless_places(tuple(patterns(*texts)), tuple(makers)), needless)

    def test_wide_patterns(self):
        # Hundreds of columns stand beside one another.
        wide = ("any", 0)
        for _ in range(5):
            wide = ("tuple", 0, (wide,) * 4)
        self.assertIsNone(missing_shape([wide], []))
        flat = lambda last: ("tuple", 0, (("tuple", 0, (("truth", 0, True),) * 300), last))
        self.assertEqual(missing_shape([flat(("any", 0))], [])[1][0][1][0], ("truth", False))
        self.assertIsNone(missing_shape([flat(("any", 0))], [], within=flat(("any", 0))))

    def test_texts(self):
        self.assertEqual(shape_text(("any",)), "_")
        self.assertEqual(shape_text(("number", -12)), "-12")
        self.assertEqual(shape_text(("truth", True)), "true")
        self.assertEqual(shape_text(("record", ())), "(record)")
        self.assertEqual(shape_text(("record", (("l", ("number", 0)), ("m", ("make", "c", ("any",)))))),
                         "(record (l 0) (m (make c _)))")
        self.assertEqual(shape_text(("tuple", (("any",), ("truth", False), ("number", 3)))), "(tuple _ false 3)")


KINDS = [
    ("truth", ()), (("number", 0, 3), ()), (("tuple", ("truth", "truth")), ()),
    (("tuple", (("number", 0, 2), "truth", "truth")), ()),
    (("record", (("l", "truth"), ("m", ("number", 0, 2)))), ()),
    (("tuple", (("tuple", ("truth", "truth")), ("record", (("l", "truth"),)))), ()),
    (("data", {"a": "truth", "b": ("number", 0, 2), "c": "fn"}), (("a", "b", "c"),)),
    (("tuple", (("data", {"a": "truth", "b": "truth"}), ("data", {"c": "fn"}))), (("c",), ("a", "b"))),
]
LIST = {"nil": "truth"}
LIST["cons"] = ("tuple", ("truth", ("data", LIST)))
KINDS.append((("data", LIST), (("nil", "cons"),)))


def random_pattern(chance, kind, depth=3):
    if depth == 0 or chance.random() < 0.3 or kind == "fn":
        return chance.choice([("any", 0), ("name", 0, "x")])
    inside = lambda k: random_pattern(chance, k, depth - 1)
    if kind == "truth":
        return ("truth", 0, chance.random() < 0.5)
    if kind[0] == "number":
        return ("number", 0, chance.randint(kind[1] - 1, kind[2]))
    if kind[0] == "tuple":
        return ("tuple", 0, tuple(map(inside, kind[1])))
    if kind[0] == "record":
        rows = chance.sample(kind[1], chance.randint(0, len(kind[1])))
        return ("record", 0, tuple((label, inside(k)) for label, k in rows))
    maker = chance.choice(list(kind[1]))
    return ("make", 0, maker, inside(kind[1][maker]))


class AllValues(unittest.TestCase):
    """The walk is right about all values of small kinds (9.5, 9.6)."""

    def test_meaning(self):
        for seed in range(1500):
            chance = random.Random(seed)
            kind, makers = chance.choice(KINDS)
            rows = [random_pattern(chance, kind) for _ in range(chance.randint(0, 5))]
            within = random_pattern(chance, kind) if chance.random() < 0.5 else None
            values = values_of(kind)
            free = [v for v in values if (within is None or matches(within, v)) and not any(matches(p, v) for p in rows)]
            shape = missing_shape(rows, makers, within=within)
            if shape is None:
                self.assertEqual(free, [], (rows, within))
            else:
                for v in values:
                    if stands_for(shape, v):
                        self.assertIn(v, free, (rows, within, shape))
            for v in values:
                for p in rows:
                    self.assertEqual(bindings_of(p, v) is not None, matches(p, v))
            for at in needless_places(rows, makers):
                for v in values:
                    if matches(rows[at], v):
                        self.assertTrue(any(matches(p, v) for p in rows[:at]))

    def test_the_walk_as_told(self):
        for seed in range(1500):
            chance = random.Random(seed)
            kind, makers = chance.choice(KINDS)
            rows = []
            for _ in range(chance.randint(0, 6)):
                # Sometimes patterns of several kinds stand together.
                other = chance.choice(KINDS)[0] if chance.random() < 0.15 else kind
                rows.append(random_pattern(chance, other))
            makers = chance.choice([makers, (), (("z", "a"), *makers)])
            within = random_pattern(chance, chance.choice(KINDS)[0]) if chance.random() < 0.3 else None
            self.assertEqual(missing_shape(rows, makers, within=within), plain_missing(rows, makers, within))
            self.assertEqual(needless_places(rows, makers), plain_needless(rows, makers))

    def test_each_shape_has_its_own_text(self):
        texts = {}
        for seed in range(400):
            chance = random.Random(seed)
            kind, makers = chance.choice(KINDS)
            shape = missing_shape([random_pattern(chance, kind) for _ in range(2)], makers)
            if shape is not None:
                self.assertEqual(texts.setdefault(shape_text(shape), shape), shape)


class Programs9(unittest.TestCase):
    def test_makers_in(self):
        text = """(program (data d () (c int) (when A ((e int)) ((f int) (c int))))
            (when B ((data g (p) (h p))) ((when A ((data d () (i int))) ()))) (def x 1)
            (data k () (when A ((l int)) ())) (main 1))"""
        p = read_program(text)
        self.assertEqual(makers_in(p, ()), (("c", "f", "c"), ()))
        self.assertEqual(makers_in(p, ["A"]), (("c", "e"), ("i",), ("l",)))
        self.assertEqual(makers_in(p, ("B", "A", "A")), (("c", "e"), ("h",), ("l",)))
        self.assertEqual(makers_in(p, ["B", "Z"]), (("c", "f", "c"), ("h",), ()))
        self.assertEqual(makers_in(read_program("(program (main 1))"), ()), ())

    def test_arms_at(self):
        node = read_expression("(match 1 ((choose A x 1) 2) (when B (((tuple _ (choose A y _)) 3) (when A ((z 4)) ())) ((_ 5))) (w 6))")
        arms = node[3]
        self.assertEqual(arms_at(arms, ()), ((2, ("number", 5, 1)), (19, ("any", 20)), (22, ("name", 23, "w"))))
        self.assertEqual([number for number, _ in arms_at(list(arms), ["B", "A"])], [2, 8, 16, 22])
        self.assertEqual(arms_at(arms, ["B", "A"])[1][1], ("tuple", 9, (("any", 10), ("name", 12, "y"))))
        self.assertEqual(arms_at((), ()), ())

    def test_match_shapes(self):
        p = read_program("(program (main (match true (true (match 0 (0 1) (when A ((_ 2)) ()))))))")
        self.assertEqual(match_shapes(p), {1: ((True, ("truth", False)),), 5: ((A_OFF, ("number", 1)),)})
        self.assertEqual(cases_table(p), ((True, (1, ("truth", False))),))
        self.assertEqual(needless_arms(p), ())
        p = read_program("(program (main (choose A (match true (true 1)) (match 1 (when B ((_ 2)) ())))))")
        self.assertEqual(match_shapes(p), {2: ((A_ON, ("truth", False)),),
                                           7: ((("A", False, ("B", False, True)), ("any",)),)})
        self.assertEqual(cases_table(p), ((("A", False, ("B", False, True)), (7, ("any",))), (A_ON, (2, ("truth", False)))))
        p = read_program("(program (main (choose A (choose A 1 (match 2 (3 4))) (match 5 (_ 6)))))")
        self.assertEqual(match_shapes(p), {4: (), 9: ()})
        self.assertEqual(cases_table(p), ())

    def test_places_of_matches(self):
        p = read_program("""(program (def x (match 1 (1 2))) (sig s) (module m (struct (def y (match 1 (1 2)))))
            (functor f (z s) ((def y (match 1 (1 2)))) ()) (main (mark 1 (match 1 (1 2)))))""")
        found = match_shapes(p)
        self.assertEqual(list(found.values()), [((True, ("number", 0)),)] * 4)
        self.assertEqual(cases_table(p), ((True, (2, ("number", 0))),))

    def test_choices_inside_patterns(self):
        p = read_program("(program (main (match 1 ((tuple (choose A true _) (choose B 0 x)) 1) ((choose C _ (tuple _ _)) 2) (_ 3))))")
        self.assertEqual(match_shapes(p), {1: ()})
        self.assertEqual(needless_arms(p), ((12, ("A", False, ("B", False, True))), (19, True)))

    def test_data_under_whens(self):
        p = read_program("""(program (data d () (c int) (when A ((e int)) ())) (when B ((data g () (f int))) ())
            (main (match 1 ((make c _) 2) ((make f _) 3))))""")
        self.assertEqual(match_shapes(p)[11], ((A_ON, ("make", "e", ("any",))),))
        # Where the constructor is declared nowhere, it stands alone.
        p = read_program("(program (when A ((data d () (c int) (e int))) ()) (main (match 1 ((make c _) 2) (_ 3))))")
        self.assertEqual(needless_arms(p), ((13, A_OFF),))

    def test_names_and_types_may_be_at_fault(self):
        p = read_program("(program (data d () (c int)) (data g () (c int) (e int)) (main (match x ((make c 1) y) (true 2) ((make h 3) 4))))")
        self.assertEqual(match_shapes(p), {9: ((True, ("make", "c", ("number", 0))),)})

    def compare(self, tree, switches):
        shapes, cases, needless = match_shapes(tree), cases_table(tree), dict(needless_arms(tree))
        numbers = {n[1] for n in all_nodes(tree) if n[0] == "match"}
        self.assertEqual(set(shapes), numbers)
        self.assertEqual([number for number, _ in needless_arms(tree)], sorted(needless))
        for table in (cases, *shapes.values()):
            self.assertEqual(table_faults(table, switches), [])
        for condition in needless.values():
            self.assertTrue(is_condition(condition) and condition is not False)
        for setting in every_setting(switches):
            one = chosen(tree, setting)
            makers = makers_in(tree, setting)
            self.assertEqual(makers, tuple(tuple(m[2] for m in row[4]) for row in one[2] if row[0] == "data"))
            found, idle = {}, set()
            for node in all_nodes(one):
                if node[0] == "match":
                    rows = [arm[2] for arm in node[3]]
                    shape = plain_missing(rows, makers)
                    if shape is not None:
                        found[node[1]] = shape
                    idle |= {node[3][at][1] for at in plain_needless(rows, makers)}
            there = {k: value_at(shapes[k], setting) for k in shapes}
            self.assertEqual({k: v for k, v in there.items() if v is not None}, found)
            self.assertEqual(value_at(cases, setting), min(found.items(), default=None, key=lambda pair: pair[0]))
            self.assertEqual({k for k in needless if holds(needless[k], setting)}, idle)

    def test_random_programs(self):
        for seed in range(250):
            chance = random.Random(seed)
            switches = ("A", "B", "C")[:seed % 4]
            makes = Programs(chance, switches, wild=0.05, choices=0.25, modules=seed % 5 == 0)
            self.compare(makes.program(many=chance.randint(0, 5), depth=5), switches)
        for seed in range(150):
            self.compare(Trees(random.Random(seed)).program(many=4, depth=4), ("A", "B", "C"))

    def test_no_argument_is_changed(self):
        before = copy.deepcopy(PLACES)
        first = (match_shapes(PLACES), cases_table(PLACES), needless_arms(PLACES), makers_in(PLACES, []))
        self.assertEqual(PLACES, before)
        match_shapes(PLACES).clear()
        self.assertEqual((match_shapes(PLACES), cases_table(PLACES), needless_arms(PLACES), makers_in(PLACES, [])), first)
        rows, makers = patterns("(tuple 0 true)", "_"), [("c",)]
        kept = copy.deepcopy((rows, makers))
        missing_shape(rows, makers)
        needless_places(rows, makers)
        self.assertEqual((rows, makers), kept)


if __name__ == "__main__":
    unittest.main()
