"""Part 15: the bench."""

import copy
import inspect
import os
import random
import time
import unittest

from eacharm.bench import Bench, Joined, joined_bench
from eacharm.checking import Check, check
from eacharm.choosing import chosen, partly, put_at, switches_in
from eacharm.errors import (
    ArmError, BadPiece, NoDeed, NoEdit, NoPlace, NotOff, NotOn, TooManyEdits, UnlikeBase)
from eacharm.lots import verdict_at
from eacharm.reader import read_declaration, read_expression, read_program
from eacharm.tables import value_at
from eacharm.trees import all_nodes, node_sorts
from programs import Programs
from settings import every_setting, holds_slowly, is_condition

MANY = int(os.environ.get("PROGRAMS", 300))
EXAMPLE = "(program (def f (fn x (+ x 1))) (main (app f 2)))"
CHECKED = ("program", "switches", "marks", "stages", "faults", "schemes", "typable")


def expression(text):
    return read_expression(text)


def declarations(*texts):
    return tuple(map(read_declaration, texts))


def state(bench):
    """All attributes of a bench, that of the check by its own attributes."""
    return (bench.base, bench.program, bench.edits, bench.lot, bench.folded, [getattr(bench.told, name) for name in CHECKED])


def settled(bench, lot):
    """The program with just the edits of a lot on."""
    pairs = [(switch, switch in lot) for switch, _, _ in bench.edits]
    return partly(bench.program, pairs)


class Cases(unittest.TestCase):
    def raises(self, error, call, *args, **more):
        """The attributes of the error of a call, which changes nothing."""
        bench = getattr(call, "__self__", None)
        before = state(bench) if bench else None
        with self.assertRaises(ArmError) as caught:
            call(*args, **more)
        self.assertIs(type(caught.exception), error)
        if bench:
            self.assertEqual(state(bench), before)
        return vars(caught.exception)


class Examples(Cases):
    def test_example(self):
        b = Bench(read_program(EXAMPLE))
        self.assertEqual(b.put_edit(3, piece=read_expression("(if x 0 1)")), "e1")
        self.assertEqual(b.put_edit(8, piece=expression("true")), "e2")
        self.assertEqual(b.fitting_lots(), ((), ("e1", "e2")))
        self.assertEqual(b.greatest_lots(), (("e1", "e2"),))
        self.assertEqual(b.least_misfits(), (("e1",), ("e2",)))


class Attributes(Cases):
    """15.2 and the interface."""

    def test_new(self):
        p = read_program("(program (main (choose A 1 (mark 1 true))))")
        b = Bench(p)
        self.assertEqual((b.base, b.program, b.edits, b.lot, b.folded), (p, p, (), (), 0))
        self.assertIsInstance(b.told, Check)
        self.assertEqual(state(b)[5], [getattr(check(p), name) for name in CHECKED])

    def test_signatures(self):
        self.assertEqual(str(inspect.signature(Bench.put_edit)), "(self, number, *, piece)")
        self.assertEqual(str(inspect.signature(Bench.verdict)), "(self, setting=(), *, lot=None)")
        for name in ("fitting_lots", "greatest_lots", "least_misfits"):
            self.assertEqual(str(inspect.signature(getattr(Bench, name))), "(self, setting=())")
        with self.assertRaises(TypeError):
            Bench(read_program(EXAMPLE)).put_edit(3, expression("1"))

    def test_joined_keeps_what_it_is_given(self):
        j = Joined("bench", [1, 2])
        self.assertEqual((j.bench, j.switches), ("bench", [1, 2]))


class Putting(Cases):
    """15.3 and 15.4."""

    def test_an_expression(self):
        p = read_program(EXAMPLE)
        b = Bench(p)
        piece = expression("(if x 0 1)")
        self.assertEqual(b.put_edit(3, piece=piece), "e1")
        self.assertEqual(b.program, put_at(p, 3, "e1", piece))
        self.assertEqual((b.base, b.edits, b.lot, b.folded), (p, (("e1", 3, piece),), ("e1",), 0))
        self.assertEqual(state(b)[5], [getattr(check(b.program), name) for name in CHECKED])

    def test_declarations(self):
        p = read_program(EXAMPLE)
        b = Bench(p)
        two = declarations("(def g 1)", "(defrec (f (fn x g)))")
        self.assertEqual(b.put_edit(1, piece=two), "e1")
        self.assertEqual(b.program, put_at(p, 1, "e1", two))
        self.assertEqual(b.put_edit(1, piece=()), "e2")
        self.assertEqual(b.program, put_at(put_at(p, 1, "e1", two), 1, "e2", ()))
        self.assertEqual((b.edits, b.lot), ((("e1", 1, two), ("e2", 1, ())), ("e1", "e2")))
        self.assertEqual(b.verdict()[0], "names")
        self.assertEqual(b.verdict(lot=["e1"])[0], "fits")
        self.assertEqual(b.verdict(lot=["e2"])[0], "names")
        inner = declarations("(when A ((def g true)) ((alias t int)))")
        b = Bench(read_program("(program (module m (struct (def g 1))) (main (member m g)))"))
        b.put_edit(3, piece=inner)
        self.assertEqual([b.verdict(s)[0] for s in ((), ["A"])], ["names", "fits"])

    def test_places_within_pieces_and_within_what_is_replaced(self):
        p = read_program(EXAMPLE)
        b = Bench(p)
        b.put_edit(3, piece=expression("(if x 0 1)"))
        # The choice has the number 9, the piece 10 to 13.
        self.assertEqual([n[1] for n in all_nodes(b.program) if n[1] > 8], [9, 10, 11, 12, 13])
        self.assertEqual(b.put_edit(12, piece=expression("(+ 7 true)")), "e2")
        self.assertEqual(b.put_edit(4, piece=expression("true")), "e3")
        q = put_at(put_at(put_at(p, 3, "e1", expression("(if x 0 1)")), 12, "e2", expression("(+ 7 true)")), 4, "e3", expression("true"))
        self.assertEqual(b.program, q)
        self.assertEqual(b.verdict(lot=["e2"])[0], "fits")
        self.assertEqual(b.verdict(lot=["e2", "e1"])[0], "types")
        self.assertEqual(b.verdict(lot=["e3"])[0], "types")
        self.assertEqual(b.put_edit(3, piece=expression("hole")), "e4")
        self.assertEqual(b.verdict()[0], "fits")

    def test_no_place(self):
        b = Bench(read_program("(program (data d () (c int)) (def f (match 1 ((choose A 1 2) 3))) (sig s (val x () int)) (module m (struct (def x 1)) s) (main f))"))
        sorts = node_sorts(b.program)
        for number in [n for n in sorts if sorts[n] not in ("expression", "declaration")] + [99, -1]:
            for piece in (expression("1"), (), expression("(mark 1 2)")):
                self.assertEqual(self.raises(NoPlace, b.put_edit, number, piece=piece), {"number": number})
        b.put_edit(4, piece=())
        free = max(sorts) + 1
        self.assertEqual(b.program[2][1][:2], ("when", free))
        self.assertEqual(self.raises(NoPlace, b.put_edit, free, piece=()), {"number": free})

    def test_bad_pieces(self):
        b = Bench(read_program("(program (def f (mark 2 1)) (main (choose A f (mark 4 f))))"))
        one, rows = expression("1"), declarations("(def g 1)")
        self.assertEqual(self.raises(BadPiece, b.put_edit, 1, piece=one), {"number": 1})
        for piece in (rows, ()):
            self.assertEqual(self.raises(BadPiece, b.put_edit, 3, piece=piece), {"number": 3})
        for piece in (expression("(tuple 1 (mark 4 2))"), expression("(mark 2 1)"), expression("(fn x (choose B 1 (mark 4 x)))")):
            self.assertEqual(self.raises(BadPiece, b.put_edit, 3, piece=piece), {"number": 3})
        self.assertEqual(self.raises(BadPiece, b.put_edit, 1, piece=declarations("(def h 1)", "(def g (mark 4 1))")), {"number": 1})
        b.put_edit(3, piece=expression("(tuple (mark 1 1) (mark 3 2))"))
        # A mark of an earlier piece counts, also where that is taken back.
        b.take_back("e1")
        self.assertEqual(self.raises(BadPiece, b.put_edit, 5, piece=expression("(mark 3 1)")), {"number": 5})
        self.assertEqual(b.put_edit(5, piece=expression("(mark 5 (mark 6 1))")), "e2")
        self.assertEqual(b.told.marks, (1, 2, 3, 4, 5, 6))

    def test_too_many(self):
        b = Bench(read_program("(program (def f (mark 1 1)) (main (tuple f f)))"))
        for k in range(6):
            self.assertEqual(b.put_edit(6 - k % 2, piece=expression("1")), f"e{k + 1}")
        self.assertEqual(b.lot, ("e1", "e2", "e3", "e4", "e5", "e6"))
        self.assertEqual(self.raises(TooManyEdits, b.put_edit, 5, piece=expression("1")), {"most": 6})
        # The others are due first.
        self.assertEqual(self.raises(NoPlace, b.put_edit, 999, piece=expression("1")), {"number": 999})
        self.assertEqual(self.raises(NoPlace, b.put_edit, 0, piece=()), {"number": 0})
        self.assertEqual(self.raises(BadPiece, b.put_edit, 5, piece=()), {"number": 5})
        self.assertEqual(self.raises(BadPiece, b.put_edit, 5, piece=expression("(mark 1 1)")), {"number": 5})
        b.fold_edit("e4")
        self.assertEqual(b.put_edit(6, piece=expression("2")), "e4")
        self.assertEqual([switch for switch, _, _ in b.edits], ["e1", "e2", "e3", "e5", "e6", "e4"])
        self.assertEqual(b.lot, ("e1", "e2", "e3", "e4", "e5", "e6"))

    def test_the_least_free_switch(self):
        b = Bench(read_program("(program (main (tuple 1 2 3)))"))
        for number in (2, 3, 4):
            b.put_edit(number, piece=expression("true"))
        b.fold_edit("e2")
        b.fold_edit("e1")
        self.assertEqual(b.put_edit(4, piece=expression("false")), "e1")
        self.assertEqual(b.put_edit(4, piece=expression("hole")), "e2")
        self.assertEqual(b.put_edit(4, piece=expression("hole")), "e4")


class Deeds(Cases):
    """15.5 to 15.7."""

    def bench(self):
        b = Bench(read_program(EXAMPLE))
        b.put_edit(3, piece=expression("(if x 0 1)"))
        b.put_edit(8, piece=expression("true"))
        return b

    def test_taking_back_and_putting_again(self):
        b = self.bench()
        before = state(b)
        told = b.told
        self.assertIsNone(b.take_back("e1"))
        self.assertEqual(b.lot, ("e2",))
        self.assertIsNone(b.take_back("e2"))
        self.assertEqual(b.lot, ())
        self.assertIsNone(b.put_again("e2"))
        self.assertIsNone(b.put_again("e1"))
        self.assertEqual(b.lot, ("e1", "e2"))
        self.assertEqual(state(b), before)
        self.assertIs(b.told, told)

    def test_refused(self):
        b = self.bench()
        for call in (b.take_back, b.put_again, b.fold_edit, b.matters):
            for switch in ("e3", "A", "", "e9"):
                self.assertEqual(self.raises(NoEdit, call, switch), {"switch": switch})
        self.assertEqual(self.raises(NotOff, b.put_again, "e2"), {"switch": "e2"})
        b.take_back("e2")
        self.assertEqual(self.raises(NotOn, b.take_back, "e2"), {"switch": "e2"})
        b.fold_edit("e1")
        for call in (b.take_back, b.put_again, b.fold_edit, b.matters):
            self.assertEqual(self.raises(NoEdit, call, "e1"), {"switch": "e1"})

    def test_folding(self):
        b = self.bench()
        b.take_back("e2")
        p = b.program
        self.assertIsNone(b.fold_edit("e1"))
        self.assertEqual((b.program, b.edits, b.lot, b.folded), (partly(p, (("e1", True),)), (("e2", 8, expression("true")),), (), 1))
        self.assertEqual(state(b)[5], [getattr(check(b.program), name) for name in CHECKED])
        p = b.program
        b.fold_edit("e2")
        self.assertEqual((b.program, b.edits, b.lot, b.folded), (partly(p, (("e2", False),)), (), (), 2))
        self.assertEqual(b.base, read_program(EXAMPLE))

    def test_edits_whose_places_are_gone(self):
        b = Bench(read_program(EXAMPLE))
        b.put_edit(3, piece=expression("(if x 0 1)"))
        b.put_edit(12, piece=expression("(+ 1 true)"))
        b.put_edit(4, piece=expression("2"))
        b.take_back("e1")
        b.fold_edit("e1")
        # e2 stood in the piece that was dropped.
        self.assertEqual(([switch for switch, _, _ in b.edits], b.lot), (["e2", "e3"], ("e2", "e3")))
        self.assertEqual(switches_in(b.program), ("e3",))
        self.assertEqual(b.fitting_lots(), ((), ("e2",), ("e2", "e3"), ("e3",)))
        self.assertEqual((b.greatest_lots(), b.least_misfits(), b.matters("e2")), ((("e2", "e3"),), (), False))
        b.take_back("e2")
        b.put_again("e2")
        b.fold_edit("e2")
        self.assertEqual((b.lot, b.folded), (("e3",), 2))
        self.assertEqual(b.put_edit(8, piece=expression("5")), "e1")

    def test_undoing(self):
        b = Bench(read_program(EXAMPLE))
        self.raises(NoDeed, b.undo_deed)
        states, deeds = [state(b)], [
            lambda: b.put_edit(3, piece=expression("(if x 0 1)")), lambda: b.put_edit(12, piece=expression("7")), lambda: b.take_back("e1"),
            lambda: b.put_edit(1, piece=declarations("(def f (fn y y))", "(def g f)")), lambda: b.fold_edit("e1"), lambda: b.put_edit(8, piece=expression("true")),
            lambda: b.take_back("e1"), lambda: b.put_again("e1"), lambda: b.fold_edit("e3"), lambda: b.take_back("e2")]
        for deed in deeds:
            deed()
            states.append(state(b))
        # A call that raises is no deed.
        self.raises(NoEdit, b.fold_edit, "e6")
        self.raises(NoPlace, b.put_edit, 0, piece=())
        for wanted in states[-2::-1]:
            self.assertIsNone(b.undo_deed())
            self.assertEqual(state(b), wanted)
        self.raises(NoDeed, b.undo_deed)
        # What is undone can be done again.
        self.assertEqual(b.put_edit(3, piece=expression("(if x 0 1)")), "e1")
        self.assertEqual(state(b), states[1])

    def test_undoing_and_going_on(self):
        b = self.bench()
        b.undo_deed()
        self.assertEqual(b.put_edit(2, piece=expression("(fn x true)")), "e2")
        b.undo_deed()
        b.undo_deed()
        self.assertEqual(state(b), state(Bench(read_program(EXAMPLE))))


class Verdicts(Cases):
    """15.8 to 15.10."""

    def test_verdict(self):
        b = Bench(read_program("(program (def f (fn x (+ x 1))) (main (choose A (app f 2) true)))"))
        b.put_edit(3, piece=expression("(if x 0 1)"))
        b.put_edit(9, piece=expression("true"))
        fits = ("fits", (("int",), ()))
        self.assertEqual(b.verdict(["A"]), fits)
        self.assertEqual(b.verdict(["A"], lot=["e1"]), ("types", ((),)))
        self.assertEqual(b.verdict(["A"], lot=()), fits)
        self.assertEqual(b.verdict(["A"], lot=("e2", "e1", "e2", "e1")), fits)
        self.assertEqual(b.verdict(), ("fits", (("bool",), ())))
        # Switches of edits in a setting mean nothing, and neither do strange ones.
        self.assertEqual(b.verdict(["A", "e1", "Z", "m1"], lot=[]), fits)
        self.assertEqual(b.verdict(["e1", "A"], lot=["e2"]), ("types", ((),)))
        b.take_back("e2")
        self.assertEqual(b.verdict(["A", "e2"]), ("types", ((),)))
        self.assertEqual(b.verdict(("A",), lot=None), ("types", ((),)))
        for lot, switch in ((["e3"], "e3"), (["e1", "A", "e4"], "A"), (("e4", "e1", "e3"), "e4")):
            self.assertEqual(self.raises(NoEdit, b.verdict, ["A"], lot=lot), {"switch": switch})
        self.assertEqual(b.fitting_lots(["A", "e1"]), ((), ("e1", "e2")))
        self.assertEqual(b.fitting_lots(["e1"]), ((), ("e1",), ("e1", "e2"), ("e2",)))
        self.assertEqual(b.least_misfits(["A", "e2", "e1"]), (("e1",), ("e2",)))
        self.assertEqual(b.greatest_lots(("A",)), (("e1", "e2"),))

    def test_without_edits(self):
        b = Bench(read_program("(program (main (choose A 1 x)))"))
        self.assertEqual(b.fit_condition(), ("A", True, False))
        self.assertEqual((b.fitting_lots(["A"]), b.greatest_lots(["A"]), b.least_misfits(["A"])), (((),), ((),), ()))
        self.assertEqual((b.fitting_lots(), b.greatest_lots(), b.least_misfits()), ((), (), ((),)))

    def test_matters(self):
        b = Bench(read_program("(program (main (tuple (choose A 1 true) 2)))"))
        b.put_edit(3, piece=expression("5"))
        b.put_edit(5, piece=expression("(+ 1 true)"))
        b.put_edit(5, piece=expression("(match 1 (1 2))"))
        self.assertIs(b.matters("e1"), False)
        self.assertEqual(b.matters("e2"), ("e3", False, True))
        self.assertIs(b.matters("e3"), True)
        b = Bench(read_program("(program (main (choose A 1 2)))"))
        b.put_edit(2, piece=expression("true"))
        self.assertEqual(b.matters("e1"), ("A", True, False))
        # Another number of the fault or other lots make no difference.
        b = Bench(read_program("(program (main (tuple x (mark 1 1))))"))
        b.put_edit(2, piece=expression("(tuple 1 x)"))
        self.assertIs(b.matters("e1"), False)

    def test_random(self):
        for seed in range(MANY // 4):
            chance = random.Random(seed)
            b = random_bench(chance, seed, chance.choice([1, 2, 2, 3, 4]))
            self.check_readings(b)
            first = [s for s in [e[0] for e in b.edits] if s in b.told.switches]
            if first:
                before = {(s, lot): b.verdict(s, lot=lot) for s in every_setting("AB") for lot in every_setting(e[0] for e in b.edits)}
                switch = chance.choice(first)
                on = switch in b.lot
                b.fold_edit(switch)
                for s, lot in before:
                    if (switch in lot) == on:
                        self.assertEqual(b.verdict(s, lot=[x for x in lot if x != switch]), before[(s, lot)])
                self.check_readings(b)

    def check_readings(self, b):
        """15.8 to 15.10, compared with checks of the program with the edits settled."""
        switches = tuple(e[0] for e in b.edits)
        lots = sorted(every_setting(switches))
        verdicts = {}
        fit = b.fit_condition()
        self.assertTrue(is_condition(fit))
        for s in every_setting("AB"):
            for lot in lots:
                one = chosen(settled(b, lot), s)
                verdicts[(s, lot)] = verdict_at(check(one), ())
                told = b.verdict(s, lot=lot[::-1] + lot)
                self.assertEqual(told, verdicts[(s, lot)])
                self.assertEqual(holds_slowly(fit, (*s, *lot)), told[0] == "fits")
            fitting = [lot for lot in lots if verdicts[(s, lot)][0] == "fits"]
            misfits = [lot for lot in lots if lot not in fitting]
            part = lambda lot, other: set(lot) < set(other)
            self.assertEqual(b.fitting_lots(s), tuple(fitting))
            self.assertEqual(b.greatest_lots([*s, *switches]), tuple(a for a in fitting if not any(part(a, o) for o in fitting)))
            self.assertEqual(b.least_misfits(s), tuple(a for a in misfits if all(o in fitting for o in lots if part(o, a))))
            self.assertEqual(b.verdict(s), verdicts[(s, b.lot)])
        for switch in switches:
            condition = b.matters(switch)
            for s, lot in verdicts:
                turned = tuple(sorted({*lot} ^ {switch}))
                pairs = [(verdicts[(s, one)][0], value_at(b.told.schemes, (*s, *one))) for one in (lot, turned)]
                self.assertEqual(holds_slowly(condition, (*s, *lot)), pairs[0] != pairs[1])


def random_bench(chance, seed, edits, base=None):
    """A bench with some edits of a random program, some of them off."""
    make = Programs(chance, ("A", "B"), (1, 2), chance.choice([0.0, 0.03]), 0.15, seed % 3 == 0)
    if base is None:
        base = make.program(chance.randint(1, 4), chance.randint(2, 4))
    b = Bench(base)
    pieces = Programs(chance, ("A", "B"), (), 0.05, 0.1, False)
    for _ in range(edits):
        sorts = node_sorts(b.program)
        number = chance.choice([n for n in sorts if sorts[n] in ("expression", "declaration")])
        depth = chance.randint(0, 3)
        if sorts[number] == "expression":
            piece = pieces.numbered(("program", 0, (), pieces.expression(pieces.wanted(1), {"x": None}, depth)))[3]
        else:
            piece = pieces.numbered(("program", 0, tuple(r for _ in range(chance.randint(0, 2)) for r in pieces.definition("def", {}, depth)), ("hole", 0)))[2]
        try:
            switch = b.put_edit(number, piece=piece)
        except NoPlace:
            continue
        if chance.random() < 0.3:
            b.take_back(switch)
    return b


class Joining(Cases):
    """15.11 and 15.12."""

    def test_joined(self):
        p = read_program(EXAMPLE)
        left, right = Bench(p), Bench(p)
        left.put_edit(3, piece=expression("(if x 0 1)"))
        left.put_edit(12, piece=expression("7"))
        left.take_back("e2")
        right.put_edit(8, piece=expression("(if true false true)"))
        right.put_edit(12, piece=expression("hole"))
        right.put_edit(2, piece=expression("(fn y y)"))
        right.take_back("e1")
        before = (state(left), state(right))
        j = joined_bench(left, right)
        self.assertIsInstance(j, Joined)
        self.assertEqual(j.switches, (("e1", "e3"), ("e2", "e4"), ("e3", "e5")))
        b = j.bench
        self.assertIsInstance(b, Bench)
        self.assertEqual((b.base, b.folded, b.lot), (p, 0, ("e1", "e4", "e5")))
        moved = max(n[1] for n in all_nodes(left.program)) - 8
        self.assertEqual(b.edits, (*left.edits, ("e3", 8, right.edits[0][2]), ("e4", 12 + moved, right.edits[1][2]), ("e5", 2, right.edits[2][2])))
        self.assertEqual((state(left), state(right)), before)
        # The deeds can be undone: five edits, two of them taken back.
        for _ in range(7):
            b.undo_deed()
        self.assertEqual(state(b), state(Bench(p)))
        self.raises(NoDeed, b.undo_deed)
        self.assertEqual((state(left), state(right)), before)

    def test_none(self):
        p = read_program(EXAMPLE)
        j = joined_bench(Bench(p), Bench(p))
        self.assertEqual((state(j.bench), j.switches), (state(Bench(p)), ()))
        right = Bench(p)
        right.put_edit(8, piece=expression("true"))
        j = joined_bench(Bench(p), right)
        self.assertEqual((state(j.bench), j.switches), (state(right), (("e1", "e1"),)))
        j = joined_bench(right, Bench(p))
        self.assertEqual((state(j.bench), j.switches), (state(right), ()))
        j = joined_bench(right, right)
        self.assertEqual((j.bench.edits, j.switches), ((("e1", 8, expression("true")), ("e2", 8, expression("true"))), (("e1", "e2"),)))

    def test_edits_that_refuse_one_another(self):
        p = read_program(EXAMPLE)
        left, right = Bench(p), Bench(p)
        left.put_edit(3, piece=expression("(if x 0 1)"))
        right.put_edit(8, piece=expression("3"))
        b = joined_bench(left, right).bench
        self.assertEqual((b.verdict()[0], b.least_misfits()), ("types", (("e1",),)))
        right.put_edit(8, piece=expression("true"))
        b = joined_bench(left, right).bench
        self.assertEqual((b.verdict()[0], b.greatest_lots()), ("fits", (("e1", "e2", "e3"),)))

    def test_unlike_base(self):
        p, q = read_program(EXAMPLE), read_program(EXAMPLE.replace("2", "3"))
        self.assertEqual(self.raises(UnlikeBase, joined_bench, Bench(p), Bench(q)), {})
        folded = Bench(p)
        folded.put_edit(8, piece=expression("3"))
        folded.fold_edit("e1")
        for pair in ((folded, Bench(p)), (Bench(p), folded), (folded, folded)):
            self.assertEqual(self.raises(UnlikeBase, joined_bench, *pair), {})
        folded.undo_deed()
        self.assertEqual(len(joined_bench(folded, Bench(p)).bench.edits), 1)
        # The same program as another base is none.
        other = Bench(folded.program)
        self.raises(UnlikeBase, joined_bench, folded, other)

    def test_errors_of_putting(self):
        p = read_program("(program (main (tuple 1 2 3)))")
        left, right = Bench(p), Bench(p)
        for k in range(4):
            left.put_edit(2, piece=expression("true"))
            right.put_edit(3, piece=expression("true"))
        before = (state(left), state(right))
        self.assertEqual(self.raises(TooManyEdits, joined_bench, left, right), {"most": 6})
        self.assertEqual((state(left), state(right)), before)
        right.undo_deed()
        right.undo_deed()
        self.assertEqual(len(joined_bench(left, right).bench.edits), 6)
        left, right = Bench(p), Bench(p)
        left.put_edit(2, piece=expression("(mark 1 1)"))
        right.put_edit(3, piece=expression("(tuple 5 6)"))
        right.put_edit(7, piece=expression("(mark 1 1)"))
        self.assertEqual(self.raises(BadPiece, joined_bench, left, right), {"number": 7 + 3})

    def test_random(self):
        for seed in range(MANY // 5):
            chance = random.Random(seed)
            left = random_bench(chance, seed, chance.randint(0, 3))
            right = random_bench(chance, seed, chance.randint(0, 3), left.base)
            before = (state(left), state(right))
            j = joined_bench(left, right)
            b = j.bench
            self.assertEqual((state(left), state(right)), before)
            self.assertEqual(tuple(e[0] for e in right.edits), tuple(s for s, _ in j.switches))
            self.assertEqual(b.edits[:len(left.edits)], left.edits)
            self.assertEqual([e[2] for e in b.edits[len(left.edits):]], [e[2] for e in right.edits])
            pairs = dict(j.switches)
            self.assertEqual(b.lot, tuple(sorted([*left.lot, *[pairs[s] for s in right.lot]])))
            # With the right one's edits off it is the left one's program, numbers and all.
            self.assertEqual(partly(b.program, [(s, False) for s in pairs.values()]), left.program)
            # With the left one's edits off it is the right one's, with other switches and numbers.
            off = partly(b.program, [(e[0], False) for e in left.edits])
            moved = max(n[1] for n in all_nodes(left.program)) - max(n[1] for n in all_nodes(left.base))
            last = max(n[1] for n in all_nodes(left.base))
            self.assertEqual(off, renamed(right.program, pairs, last, moved))
            for lot in every_setting(s for s, _ in j.switches):
                self.assertEqual(b.verdict(["A"], lot=[pairs[s] for s in lot])[0], right.verdict(["A"], lot=lot)[0])


def renamed(thing, pairs, last, moved):
    """A tree with the switches of edits and the numbers behind the last one changed."""
    if not isinstance(thing, tuple):
        return thing
    if len(thing) > 1 and isinstance(thing[0], str) and isinstance(thing[1], int):
        number = thing[1] + (moved if thing[1] > last else 0)
        rest = tuple(renamed(part, pairs, last, moved) for part in thing[2:])
        if thing[0] in ("choose", "when"):
            rest = (pairs.get(thing[2], thing[2]), *rest[1:])
        return (thing[0], number, *rest)
    return tuple(renamed(part, pairs, last, moved) for part in thing)


class RandomDeeds(Cases):
    def test_random(self):
        """Whatever is done and undone: the attributes are those of 15.3 to 15.7."""
        for seed in range(MANY // 10):
            chance = random.Random(seed)
            b = random_bench(chance, seed, 1)
            pieces = Programs(chance, ("A", "B"), (), 0.05, 0.1, False)
            past = []
            for _ in range(12):
                before = state(b)
                switches = [e[0] for e in b.edits]
                deed = chance.choice(["put", "put", "take", "again", "fold", "undo"])
                try:
                    if deed == "put":
                        sorts = node_sorts(b.program)
                        number = chance.choice([n for n in sorts if sorts[n] == "expression"])
                        piece = pieces.numbered(("program", 0, (), pieces.expression(("int",), {}, 2)))[3]
                        switch = b.put_edit(number, piece=piece)
                        free = min({f"e{k}" for k in range(1, 7)} - set(switches))
                        self.assertEqual(switch, free)
                        self.assertEqual(b.edits, (*before[2], (free, number, piece)))
                        self.assertEqual((b.program, b.lot), (put_at(before[1], number, free, piece), tuple(sorted([*before[3], free]))))
                    elif deed == "undo":
                        b.undo_deed()
                        if past:
                            self.assertEqual(state(b), past.pop())
                        else:
                            past = None
                    else:
                        switch = chance.choice(["e1", "e2", "e3"])
                        call = {"take": b.take_back, "again": b.put_again, "fold": b.fold_edit}[deed]
                        self.assertIsNone(call(switch))
                        lot = {*before[3]} ^ {switch} if deed != "fold" else {*before[3]} - {switch}
                        self.assertEqual(b.lot, tuple(sorted(lot)))
                        if deed == "fold":
                            self.assertEqual(b.program, partly(before[1], ((switch, switch in before[3]),)))
                            self.assertEqual((b.edits, b.folded), (tuple(e for e in before[2] if e[0] != switch), before[4] + 1))
                except ArmError:
                    self.assertEqual(state(b), before)
                else:
                    if past is None:
                        break
                    if deed != "undo":
                        past.append(before)
            self.assertEqual(state(b)[5], [getattr(check(b.program), name) for name in CHECKED])


class Large(Cases):
    def test_six_edits_of_a_large_program(self):
        start = time.time()
        rows = "".join(f"(def f{k} (fn r (choose {s} (extend l{k} {k} r) (get l{k} r))))" for k, s in enumerate("ABCD"))
        text = "(record (l0 1) (l2 2))"
        for k in range(4):
            text = f"(app f{k} {text})"
        for k in range(6):
            text = f"(tuple {k} (mark {k + 1} {text}))" if k < 2 else f"(tuple {k} {text})"
        filler = " ".join(f"(def g{k} (tuple f{k % 4} (fn x (+ x {k})) (tuple (app (fn y y) {k}) hole true)))" for k in range(20))
        p = read_program(f"(program {rows} {filler} (main {text}))")
        self.assertGreater(len(all_nodes(p)), 280)
        b = Bench(p)
        numbers = [n[2][0][1] for n in all_nodes(p[3]) if n[0] == "tuple"]
        for number in numbers[:6]:
            b.put_edit(number, piece=expression("(fn x (app x true))"))
        self.assertEqual(len(b.told.switches) + len(b.told.marks), 12)
        self.assertEqual([b.verdict(["A", "B"], lot=lot)[0] for lot in ((), ["e1"], ["e6", "e2"])], [b.verdict(["A", "B"])[0]] * 3)
        for switch, _, _ in b.edits:
            b.matters(switch)
        b.fitting_lots()
        b.least_misfits(["A"])
        for switch in ("e3", "e1"):
            b.fold_edit(switch)
        for _ in range(8):
            b.undo_deed()
        self.assertEqual(state(b), state(Bench(p)))
        self.assertLess(time.time() - start, 8)

    def test_no_argument_is_changed(self):
        p = read_program(EXAMPLE)
        b = Bench(p)
        piece, setting, lot = expression("(if x 0 1)"), ["A", "e1"], ["e1", "e1"]
        before = copy.deepcopy((p, piece, setting, lot))
        b.put_edit(3, piece=piece)
        b.verdict(setting, lot=lot)
        b.fitting_lots(setting)
        b.greatest_lots(setting)
        b.least_misfits(setting)
        self.assertEqual((p, piece, setting, lot), before)


if __name__ == "__main__":
    unittest.main()
