"""[2.8]: texts of programs and nodes; reading them gives the renumbered trees."""

import random
import unittest

from eacharm.choosing import chosen, kept_only, marks_in, node_conditions, partly, switches_in
from eacharm.errors import BadText
from eacharm.printer import node_text, program_text
from eacharm.reader import read_declaration, read_expression, read_program
from eacharm.trees import all_nodes, inner_nodes, node_sorts, renumbered
from programs import Programs
from samples import PLACES, Trees
from settings import every_setting
from test_reader import DECLARATIONS, EXPRESSIONS, PATTERNS, WRITTEN

OTHERS = [
    ("(x 1)", ("arm", 0, ("name", 1, "x"), ("number", 2, 1))),
    ("(when A ((x 1)) ())", ("when", 0, "A", (("arm", 1, ("name", 2, "x"), ("number", 3, 1)),), ())),
    ("(c int)", ("maker", 0, "c", ("int", 1))),
    ("(hide t)", ("hide", 0, "t")),
    ("(val x (a b) (to a b))", ("val", 0, "x", ("a", "b"), ("arrow", 1, ("named", 2, "a"), ("named", 3, "b")))),
    ("(val x () int)", ("val", 0, "x", (), ("int", 1))),
    ("(struct)", ("struct", 0, ())),
    ("(apply f m)", ("apply", 0, "f", "m")),
    ("(choose A (struct) (apply f m))", ("choose", 0, "A", ("struct", 1, ()), ("apply", 2, "f", "m"))),
    ("(program (main 1))", ("program", 0, (), ("number", 1, 1))),
    ("(choose e1 1 2)", ("choose", 0, "e1", ("number", 1, 1), ("number", 2, 2))),
    ("(match e)", ("match", 0, ("name", 1, "e"), ())),
    ("(data d (p))", ("data", 0, "d", ("p",), ())),
]


def without_spare_blanks(text):
    return "  " not in text and "( " not in text and " )" not in text and "\n" not in text and text == text.strip()


class Texts(unittest.TestCase):
    def test_each_form(self):
        for text, tree in EXPRESSIONS + PATTERNS + WRITTEN + DECLARATIONS + OTHERS:
            self.assertEqual(node_text(tree), text)

    def test_numbers_of_nodes_mean_nothing(self):
        self.assertEqual(node_text(("app", 70, ("name", 5, "f"), ("number", 900, -4))), "(app f -4)")

    def test_programs(self):
        texts = [text for text, _ in DECLARATIONS if "alias" not in text or "struct" in text]
        whole = f"(program {' '.join(texts)} (main (fn x x)))"
        self.assertEqual(program_text(read_program(whole)), whole)
        self.assertEqual(node_text(read_program(whole)), whole)
        self.assertEqual(program_text(PLACES), node_text(PLACES))
        self.assertEqual(read_program(program_text(PLACES)), renumbered(PLACES))

    def test_forms_within_one_another(self):
        chance = random.Random(2)
        good = 0
        for seed in range(400):
            tree = Trees(random.Random(seed), marks=(1, 2, 3, 4, 5, 6)).program(many=3, depth=chance.randint(1, 4))
            text = program_text(tree)
            self.assertTrue(without_spare_blanks(text), text)
            try:
                self.assertEqual(read_program(text), renumbered(tree))
                good += 1
            except BadText as error:
                self.assertIn(error.what, ("form", "deep", "long", "nodes"))
        self.assertGreater(good, 200)

    def test_each_node_alone(self):
        for seed in range(60):
            tree = Trees(random.Random(seed)).program(many=3, depth=3)
            sorts = node_sorts(tree)
            for node in all_nodes(tree):
                text = node_text(node)
                self.assertTrue(without_spare_blanks(text), text)
                read = {"expression": read_expression, "declaration": read_declaration}.get(sorts[node[1]])
                if read:
                    try:
                        self.assertEqual(read(text), renumbered(node))
                    except BadText as error:
                        self.assertEqual(error.what, "form")

    def test_text_of_a_node_is_made_of_the_texts_inside(self):
        tree = Trees(random.Random(5)).program(many=5, depth=4)
        for node in all_nodes(tree):
            for inner in inner_nodes(node):
                self.assertIn(node_text(inner), node_text(node))

    def test_chosen_programs(self):
        for seed in range(80):
            tree = Programs(random.Random(seed)).program(many=4, depth=4)
            for setting in every_setting(("A", "B")):
                one = chosen(tree, setting)
                try:
                    self.assertEqual(read_program(program_text(one)), renumbered(one))
                except BadText as error:
                    self.assertIn(error.what, ("form", "deep", "long", "nodes", "many"))

    def test_programs_of_part_3(self):
        # Choosing, deciding some switches and dropping marks: the text is read as the same tree.
        for seed in range(80):
            tree = Programs(random.Random(seed), ("A", "B"), (1, 2, 3)).program(many=3, depth=4)
            trees = [tree, partly(tree, [("A", True)]), partly(tree, (("B", False),)), kept_only(tree, [2]), kept_only(tree, ()),
                     kept_only(chosen(tree, ["A"]), [1, 3]), chosen(kept_only(tree, [1]), ("B",))]
            for one in trees:
                try:
                    read = read_program(program_text(one))
                except BadText as error:
                    self.assertIn(error.what, ("form", "deep", "long", "nodes", "many"))
                    continue
                self.assertEqual(read, renumbered(one))
                self.assertEqual((switches_in(read), marks_in(read)), (switches_in(one), marks_in(one)))
                self.assertEqual(sorted(node_conditions(read)), list(range(len(all_nodes(one)))))

    def test_declarations_of_both_kinds(self):
        for text in ("(alias t (to int t))", "(when A ((alias t int)) ((data d () (c int))))", "(when A () ())",
                     "(when A ((when B ((alias t int)) ((def x 1)))) ())"):
            self.assertEqual(node_text(read_declaration(text)), text)

    def test_examples_of_part_3(self):
        p = read_program("(program (main (choose A 1 (mark 1 true))))")
        self.assertEqual(program_text(chosen(p, ["A"])), "(program (main 1))")
        self.assertEqual(program_text(chosen(p, [])), "(program (main (mark 1 true)))")


if __name__ == "__main__":
    unittest.main()
