"""0.1 to 0.6 over the whole program, and the interface."""

import ast
import copy
import importlib
import inspect
import os
import random
import time
import unittest
from pathlib import Path

from eacharm.allruns import all_runs, runs_apart
from eacharm.bench import Bench
from eacharm.builds import nearest_build, stage_counts
from eacharm.causes import refusal_causes
from eacharm.checking import check
from eacharm.choosing import chosen, switches_in
from eacharm.lots import lots_table, verdict_at
from eacharm.machine import run
from eacharm.reader import read_expression, read_program
from eacharm.report import read_report, report_of
from eacharm.trees import all_nodes
from bareterms import BareTerms
from programs import Programs
from samples import PLACES
from settings import every_setting

MANY = int(os.environ.get("PROGRAMS", 300))
ROOT = Path(__file__).resolve().parent.parent
FUELS = (0, 1, 2, 5, 400, 2000)


def has_term(told, term, datas):
    """Whether a told value has the type that a term tells, as 0.6 says it."""
    word = term[0]
    if told == ("deep",) or word in ("letter", "hidden", "unknown"):
        return True
    if word in ("int", "bool", "arrow"):
        return told[0] == {"int": "number", "bool": "truth", "arrow": "fn"}[word]
    if word == "tuple":
        return told[0] == word and len(told[1]) == len(term[1]) and all(has_term(v, t, datas) for v, t in zip(told[1], term[1]))
    if word == "cell":
        return told[0] == word and has_term(told[1], term[1], datas)
    fields = dict(term[1]) if word in ("record", "variant") else {}
    if word == "record":
        values = dict(told[1]) if told[0] == word else None
        if values is None or not set(fields) <= set(values) or (term[2] is None and set(fields) != set(values)):
            return False
        return all(has_term(values[label], fields[label], datas) for label in fields)
    if word == "variant":
        if told[0] != "tag" or (told[1] not in fields and term[2] is None):
            return False
        return told[1] not in fields or has_term(told[2], fields[told[1]], datas)
    letters, makers = datas[term[1]]
    if told[0] != "make" or told[1] not in makers:
        return False
    return has_term(told[2], read(makers[told[1]], dict(zip(letters, term[2]))), datas)


def read(node, letters):
    """The term of a written type; types of modules are not looked into."""
    word = node[0]
    if word == "named":
        return letters[node[2]]
    if word == "from":
        return ("unknown",)
    if word == "of":
        return ("data", node[2], tuple(read(part, letters) for part in node[3]))
    if word == "tuple":
        return (word, tuple(read(part, letters) for part in node[2]))
    if word in ("record", "variant"):
        return (word, tuple((label, read(part, letters)) for label, part in node[2]), None)
    return (word, *[read(part, letters) for part in node[2:]])


class Whole(unittest.TestCase):
    """0.6."""

    def compare(self, tree):
        before = copy.deepcopy(tree)
        c = check(tree)
        values = 0
        for setting in every_setting(c.switches):
            one = chosen(tree, setting)
            verdict = verdict_at(c, setting)
            self.assertEqual(verdict, verdict_at(check(one), ()))
            if verdict[0] != "fits":
                continue
            datas = {node[2]: (node[3], {maker[2]: maker[3] for maker in node[4]}) for node in one[2] if node[0] == "data"}
            for fuel in FUELS:
                outcome = run(one, fuel)
                self.assertNotEqual(outcome[0], "stuck", (one, outcome))
                if outcome[0] == "value":
                    self.assertTrue(has_term(outcome[1], verdict[1][0], datas), (outcome, verdict))
                    values += 1
        self.assertEqual(tree, before)
        return values

    def test_programs(self):
        values = 0
        for seed in range(MANY):
            chance = random.Random(seed)
            values += self.compare(Programs(chance, ("A", "B", "C")[:seed % 4], chance.choice([(), (1, 2), (5, 2, 3)]), chance.choice([0, 0.01, 0.03]),
                                            chance.choice([0.1, 0.2]), seed % 2).program(chance.randint(0, 6), chance.randint(2, 5)))
        self.assertGreater(values, 3 * MANY)

    def test_bare_terms(self):
        values = 0
        for seed in range(2 * MANY):
            values += self.compare(BareTerms(random.Random(seed), ((), ("A",), ("A", "B"))[seed % 3], (1, 2)[:seed % 4]).program())
        self.assertGreater(values, MANY // 2)

    def test_places(self):
        self.compare(PLACES)

    def test_the_types_of_values_are_told_apart(self):
        datas = {"d": (("a",), {"c": ("tuple", 1, (("named", 2, "a"), ("int", 3)))})}
        number, truth = ("number", 1), ("truth", True)
        d = ("data", "d", (("bool",),))
        self.assertTrue(has_term(("make", "c", ("tuple", (truth, number))), d, datas))
        for told, term in ((truth, ("int",)), (number, ("bool",)), (("fn",), ("int",)), (number, ("arrow", ("int",), ("int",))), (("make", "c", ("tuple", (number, number))), d),
                           (("make", "e", number), d), (("record", (("l", number),)), ("record", (), None)), (("record", ()), ("record", (("l", ("int",)),), 0)),
                           (("tag", "l", number), ("variant", (("m", ("int",)),), None)), (("tag", "m", truth), ("variant", (("m", ("int",)),), 3)), (("cell", truth), ("cell", ("int",)))):
            self.assertFalse(has_term(told, term, datas))


class Interface(unittest.TestCase):
    """The names, arguments and places of the interface."""

    WANTED = {
        "conditions": "switch_condition(switch) no(condition) both(condition, other) either(condition, other) but_not(condition, other) switched(switch, on, off) fixed(condition, switch, on) "
                      "holds(condition, setting) implies(condition, other) switches_of(condition) count_settings(condition, switches) first_setting(condition) all_settings(switches) "
                      "from_settings(settings, switches)",
        "tables": "table_of(rows) narrowed(table, condition) fixed_table(table, switch, on) paired(left, right) value_at(table, setting, default=None) covered(table)",
        "trees": "inner_nodes(node) all_nodes(node) renumbered(program) node_at(program, number) node_sorts(program)",
        "reader": "read_program(text) read_expression(text) read_declaration(text)",
        "printer": "program_text(program) node_text(node)",
        "choosing": "chosen(program, setting) partly(program, pairs) kept_only(program, marks) switches_in(program) marks_in(program) node_conditions(program) same_choice(program, setting) "
                    "put_at(program, number, switch, new)",
        "terms": "letters_in(term) row_letters_in(term) scheme_of(term, lacks=None) is_instance(term, scheme, lacks=None) more_general(scheme, other) term_text(term) scheme_text(scheme) read_scheme(text)",
        "store": "Store(living=True) Store.new_letter(self) Store.new_row(self, condition=True, labels=()) Store.unify(self, condition, left, right) Store.lack(self, condition, letter, labels) "
                 "Store.reach(self, condition, term) Store.resolved_at(self, setting, term) Store.lacks_at(self, setting, letter) Store.scheme_at(self, setting, term) "
                 "Store.scheme_table(self, condition, term) Store.copied(self, condition, term, gens)",
        "scoping": "names_table(program) binders(program)",
        "shapes": "bindings_of(pattern, told) missing_shape(patterns, makers, *, within=None) needless_places(patterns, makers) shape_text(shape) makers_in(program, setting) arms_at(arms, setting) "
                  "match_shapes(program) cases_table(program) needless_arms(program)",
        "checking": "check(program) Check(program)",
        "interfaces": "members_of(told, module) hides_of(told, module)",
        "typings": "typing_at(told, setting, kept=None)",
        "lots": "least_lots(condition, marks) lots_at(told, setting) lots_table(told) lot_condition(told, lot) repairs_at(told, setting) verdict_at(told, setting)",
        "papers": "unfolded_size(program, setting, lot) paper_at(program, setting, lot)",
        "machine": "run(program, fuel=400) Machine(program, fuel=400) Machine.advance(self) Machine.settle(self, switch, on) Machine.twin(self)",
        "allruns": "run_paths(program, fuel=400) all_runs(program, fuel=400) outcome_condition(table, word) deciding_switches(table) runs_apart(program, other, fuel=400)",
        "bench": "joined_bench(left, right) Joined(bench, switches) Bench(program) Bench.put_edit(self, number, *, piece) Bench.take_back(self, switch) Bench.put_again(self, switch) "
                 "Bench.fold_edit(self, switch) Bench.undo_deed(self) Bench.verdict(self, setting=(), *, lot=None) Bench.fit_condition(self) Bench.fitting_lots(self, setting=()) "
                 "Bench.greatest_lots(self, setting=()) Bench.least_misfits(self, setting=()) Bench.matters(self, switch)",
        "causes": "part_condition(part) least_causes(condition) stage_condition(told, *stages) refusal_causes(told, *stages) deciding_switches(told)",
        "builds": "stage_counts(told) fitting_schemes(told) scheme_counts(told) builds_having(told, wished, *, lacks=None) nearest_build(told, wanted, *, prices=None) alike_condition(told, other) "
                  "parting_setting(told, other)",
        "report": "condition_text(condition) read_condition(text) report_of(told) read_report(text) Report(switches, marks, rows) Report.verdict(self, setting) Report.written(self) Report.__iter__(self)",
    }

    def test_names_and_arguments(self):
        for name, wanted in self.WANTED.items():
            module = importlib.import_module(f"eacharm.{name}")
            tree = ast.parse((ROOT / "eacharm" / f"{name}.py").read_text(encoding="utf-8"))
            here = {n.name: n for n in tree.body if isinstance(n, (ast.FunctionDef, ast.ClassDef))}
            for one in wanted.replace(") ", ")\n").split("\n"):
                path, arguments = one[:one.index("(")].split("."), one[one.index("("):]
                self.assertIn(path[0], here, name)
                thing = getattr(module, path[0])
                if len(path) == 2:
                    self.assertIn(path[1], {n.name for n in here[path[0]].body if isinstance(n, ast.FunctionDef)})
                    thing = getattr(thing, path[1])
                self.assertEqual(str(inspect.signature(thing)), arguments, one)

    def test_attributes(self):
        c = check(read_program("(program (main 1))"))
        for thing, names in ((c, "program switches marks stages faults schemes typable"), (Bench(c.program), "base program edits lot folded told"),
                             (report_of(c), "switches marks rows fitting")):
            for name in names.split():
                getattr(thing, name)


class Large(unittest.TestCase):
    def test_everything_of_a_large_program(self):
        start = time.time()
        many = 0
        for seed in range(60):
            chance = random.Random(seed)
            p = Programs(chance, tuple("ABCDEFGH"), (1, 2, 3, 4), 0.0, 0.15, seed % 2).program(chance.randint(7, 11), 6)
            if not 250 <= len(all_nodes(p)) <= 420:
                continue
            many += 1
            c = check(p)
            r = report_of(c)
            self.assertEqual(read_report(r.written()).rows, r.rows)
            self.assertEqual(sum(count for _, count in stage_counts(c)), 2 ** len(c.switches))
            refusal_causes(c)
            lots_table(c)
            nearest_build(c, "ACE", prices={"A": 3})
            self.assertIsNone(runs_apart(p, p, 100))
            self.assertTrue(all_runs(p, 400))
        self.assertGreater(many, 5)
        self.assertLess(time.time() - start, 30)

    def test_twelve_switches_marks_and_edits(self):
        start = time.time()
        text = "1"
        for k, switch in enumerate("ABCD"):
            text = f"(tuple (choose {switch} 1 true) (+ {k + 5} 1) {text})"
        p = read_program(f"(program (main (tuple (mark 1 (+ 1 true)) (mark 2 (app 1 2)) {text})))")
        b = Bench(p)
        numbers = [n[1] for n in all_nodes(p) if n[0] == "number"][-8:]
        for number in numbers[:6]:
            b.put_edit(number, piece=read_expression("hole"))
        c = b.told
        self.assertEqual(len(c.switches) + len(c.marks), 12)
        r = report_of(c)
        self.assertEqual(r.rows, ((True, ("types", ((1,), (2,)))),))
        self.assertEqual(len(switches_in(b.program)), 10)
        self.assertLess(time.time() - start, 10)


if __name__ == "__main__":
    unittest.main()
