"""16.5 to 16.8: texts of conditions, and reports."""

import copy
import random
import time
import unittest

from eacharm.checking import check
from eacharm.choosing import chosen, put_at
from eacharm.errors import ArmError, BadConditionText, BadReport
from eacharm.lots import verdict_at
from eacharm.reader import read_expression, read_program
from eacharm.report import Report, condition_text, read_condition, read_report, report_of
from eacharm.shapes import shape_text
from bareterms import BareTerms
from programs import Programs
from settings import every_setting, holds_slowly, is_condition, random_condition, table_faults, value_slowly

A_ON, A_OFF = ("A", True, False), ("A", False, True)
TWELVE = [*"ABCDEF", *[f"e{k}" for k in range(1, 7)]]
FOUR = "(program (main (choose A (choose B x (+ (mark 2 1) (mark 4 true))) (choose B (match 1 (1 2)) 3))))"


class Conditions(unittest.TestCase):
    """16.5."""

    def test_texts(self):
        for condition, text in ((True, "1"), (False, "0"), (("A", True, ("B", False, True)), "A?1:B?0:1"), (A_ON, "A?1:0"),
                                (("A", ("B", True, False), ("C", False, True)), "A?B?1:0:C?0:1"), (("m1", ("zz9", False, True), True), "m1?zz9?0:1:1"),
                                (("Abcdefg1", True, False), "Abcdefg1?1:0"), (("B", True, ("a", True, False)), "B?1:a?1:0")):
            self.assertEqual(condition_text(condition), text)
            self.assertEqual(read_condition(text), condition)
        self.assertIs(read_condition("1"), True)
        self.assertIs(read_condition("0"), False)

    def test_random(self):
        for seed in range(200):
            chance = random.Random(seed)
            switches = chance.sample(["A", "Ab", "B", "Z9", "a", "e1", "e2", "m1", "x0000000"], chance.randint(0, 7))
            condition = random_condition(chance, switches)
            self.assertEqual(read_condition(condition_text(condition)), condition)
        condition = random_condition(random.Random(5), TWELVE)
        self.assertEqual(read_condition(condition_text(condition)), condition)

    def bad(self, *texts):
        for text in texts:
            with self.assertRaises(BadConditionText, msg=text) as caught:
                read_condition(text)
            self.assertIsInstance(caught.exception, ArmError)

    def test_faults(self):
        self.bad("", "2", "10", "01", "A", "A?", "A?1", "A?1:", "A?:1", "A:1?0", "A?1:0:", "A?1:00", "A?1:0 ", " A?1:0", "A ?1:0", "A? 1:0", "A?1 :0",
                 "A?1:0\n", "\n1", "1 ", "True", "?1:0", "A?1;0", "A?1?0", "A??1:0:1", "A?B?1:0", "(A?1:0)")
        # Both sides are equal.
        self.bad("A?1:1", "A?0:0", "A?B?1:0:B?1:0", "A?B?1:1:0", "A?0:B?0:0")
        # Switches do not ascend.
        self.bad("B?A?1:0:0", "A?A?1:0:0", "A?1:A?1:0", "a?1:B?1:0", "B?1:A?1:0", "A?B?1:0:A?0:1", "A?C?B?1:0:1:0")
        # No switches.
        self.bad("1A?1:0", "A_?1:0", "Abcdefgh1?1:0", "A-?1:0", "_A?1:0", "9?1:0", "\u00e4?1:0", "A\u0661?1:0", "\u0391?1:0", "A\u00b2?1:0", "A?\u0661:0")

    def test_the_number_of_switches(self):
        def chain(names):
            text = "1"
            for at, name in enumerate(sorted(names)[::-1]):
                text = f"{name}?{text}:0"
            return text

        names = [f"S{k:02}" for k in range(13)]
        self.assertEqual(condition_text(read_condition(chain(names[:12]))), chain(names[:12]))
        self.bad(chain(names), chain([f"S{k:04}" for k in range(3000)]))
        # Thirteen that do not stand in one another.
        wide = f"A?{chain(names[:6])}:{chain(names[6:12])}"
        self.bad(wide)
        self.assertEqual(condition_text(read_condition(f"A?{chain(names[:6])}:{chain(names[6:11])}")), f"A?{chain(names[:6])}:{chain(names[6:11])}")


class Reports(unittest.TestCase):
    """16.6 and 16.7."""

    def test_example(self):
        r = report_of(check(read_program("(program (main (choose A 1 (app 2 3))))")))
        self.assertEqual(r.written(), "switches A\nmarks\nA?0:1 types none\nA?1:0 fits (scheme int)")

    def test_all_stages(self):
        c = check(read_program(FOUR))
        r = report_of(c)
        self.assertIsInstance(r, Report)
        self.assertEqual((r.switches, r.marks), (("A", "B"), (2, 4)))
        self.assertEqual(r.rows, (
            (("A", False, ("B", False, True)), ("fits", (("int",), ()))),
            (("A", False, ("B", True, False)), ("cases", 10, "0")),
            (("A", ("B", False, True), False), ("types", ((4,),))),
            (("A", ("B", True, False), False), ("names", 3, "unknown"))))
        self.assertEqual(r.written(), "switches A B\nmarks 2 4\nA?0:B?0:1 fits (scheme int)\nA?0:B?1:0 cases 10 0\nA?B?0:1:0 types 4\nA?B?1:0:0 names 3 unknown")
        self.assertEqual(r.fitting, ("A", False, ("B", False, True)))
        self.assertEqual(r.verdict([]), ("fits", (("int",), ())))
        self.assertEqual(r.verdict(["B", "Z", "A"]), ("names", 3, "unknown"))
        self.assertEqual(tuple(r), r.rows)
        self.assertEqual([verdict[0] for _, verdict in r], ["fits", "cases", "types", "names"])

    def test_lots(self):
        text = "(program (main (fn x (tuple (mark 4 (+ x 1)) (mark 2 (if x 1 2)) (mark 6 (get l x))))))"
        r = report_of(check(read_program(text)))
        self.assertEqual(r.written(), "switches\nmarks 2 4 6\n1 types 2+4,2+6,4+6")
        text = "(program (main (fn x (tuple (mark 1 true) (mark 3 (+ true 1)) (mark 2 (if x 1 2)) (mark 6 (+ x 1))))))"
        self.assertEqual(report_of(check(read_program(text))).written(), "switches\nmarks 1 2 3 6\n1 types 2+6,3")
        self.assertIs(report_of(check(read_program(text))).fitting, False)

    def test_schemes_and_shapes(self):
        text = "(program (main (choose A (fn r (extend l 1 r)) (match (tuple true false) ((tuple true _) 1)))))"
        r = report_of(check(read_program(text)))
        self.assertEqual(r.written(), "switches A\nmarks\nA?0:1 cases 6 (tuple false _)\nA?1:0 fits (scheme (to (record | ?0) (record (l int) | ?0)) (lacks 0 l))")

    def test_edits_switches(self):
        p = put_at(read_program("(program (main (choose A 1 x)))"), 3, "e2", read_expression("true"))
        r = report_of(check(p))
        self.assertEqual(r.switches, ("A", "e2"))
        self.assertEqual(read_report(r.written()).rows, r.rows)

    def test_a_report_of_anything(self):
        switches, marks, rows = ["A"], [2], [(A_ON, ("fits", "x")), (A_OFF, ("types", ()))]
        r = Report(switches, marks, rows)
        self.assertEqual((r.switches, r.marks, r.rows), (("A",), (2,), tuple(rows)))
        self.assertEqual((list(r), list(r)), (rows, rows))
        switches.append("B")
        rows.pop()
        self.assertEqual((r.switches, len(r.rows), r.fitting), (("A",), 2, A_ON))
        self.assertEqual(Report((), (), ()).fitting, False)
        self.assertEqual(list(Report((), (), ())), [])
        self.assertEqual(Report(switches=("A",), marks=(), rows=((A_ON, ("names", 4, "twice")),)).written(), "switches A\nmarks\nA?1:0 names 4 twice")

    def test_fitting_is_of_several_rows(self):
        r = report_of(check(read_program("(program (main (choose A 1 (choose B true x))))")))
        self.assertEqual(r.fitting, ("A", True, ("B", True, False)))


class Reading(unittest.TestCase):
    """16.8."""

    GOOD = "switches A B e2\nmarks 2 4\nA?0:B?0:1 fits (scheme int)\nA?0:B?1:0 cases 10 (tuple _ 0)\nA?e2?0:1:0 types 2,4\nA?B?0:e2?1:0:0 names 3 unknown\nA?B?e2?1:0:0:0 types none"

    def bad(self, line, *texts):
        for text in texts:
            with self.assertRaises(BadReport, msg=text) as caught:
                read_report(text)
            self.assertIsInstance(caught.exception, ArmError)
            self.assertEqual(caught.exception.line, line, text)

    def test_good(self):
        r = read_report(self.GOOD)
        self.assertIsInstance(r, Report)
        self.assertEqual((r.switches, r.marks), (("A", "B", "e2"), (2, 4)))
        self.assertEqual(r.rows, (
            (("A", False, ("B", False, True)), ("fits", (("int",), ()))), (("A", False, ("B", True, False)), ("cases", 10, "(tuple _ 0)")),
            (("A", ("e2", False, True), False), ("types", ((2,), (4,)))), (("A", ("B", False, ("e2", True, False)), False), ("names", 3, "unknown")),
            (("A", ("B", ("e2", True, False), False), False), ("types", ((),)))))
        self.assertEqual(r.written(), self.GOOD)
        for text in ("switches\nmarks\n1 types none", "switches\nmarks 1 2 3 4 5 6\n1 types 1+2+3,1+4,5+6", "switches A\nmarks\n1 cases 0 any thing at all ", "switches A\nmarks\n1 cases 5  ",
                     "switches " + " ".join(TWELVE) + "\nmarks\n1 names 999999999 endless", "switches A\nmarks 6\n1 types 6", "switches Abcdefg1 e9\nmarks\n1 names 0 twice",
                     "switches\nmarks\n1 fits (scheme (to ?0 ?0))", "switches A Aa B B1 e1\nmarks\n1 types none"):
            self.assertEqual(read_report(text).written(), text)

    def test_first_line(self):
        self.bad(1, "", "\nmarks\n1 types none", "switch\nmarks\n1 types none", "switches \nmarks", " switches\nmarks", "switches  A\nmarks", "switches A \nmarks", "switches A  B\nmarks",
                 "switches B A\nmarks\n", "switches A A\nmarks", "switches a\nmarks", "switches e0\nmarks", "switches e10\nmarks", "switches m1\nmarks", "switches Abcdefgh1\nmarks",
                 "switches A_\nmarks", "switches \u0391\nmarks", "switches A\u0661\nmarks", "switches e\u0661\nmarks", "switches e1 A\nmarks", "switches A,B\nmarks", "switchesA\nmarks", "Switches\nmarks",
                 "switches A\r\nmarks", "marks\nswitches\n1 types none", "switches A\tB\nmarks", "switches 1\nmarks", "switches " + " ".join([*TWELVE, "e7"]) + "\nmarks\n1 types none")

    def test_second_line(self):
        self.bad(2, "switches", "switches A", "switches\n", "switches\n\n1 types none", "switches\nmark\n1 types none", "switches\nmarks \n1 types none", "switches\nmarks  1\n1 types none",
                 "switches\nmarks 1 1\n1 types none", "switches\nmarks 2 1\n1 types none", "switches\nmarks 0\n1 types none", "switches\nmarks 7\n1 types none", "switches\nmarks 01\n1 types none",
                 "switches\nmarks 1,2\n1 types none", "switches\nmarks 1 \n1 types none", "switches\nmarks x\n1 types none", "switches\nswitches\n1 types none", "switches\n1 types none", "switches\nmarks \u0661\n1 types none")

    def line(self, *lines):
        """The text of a report with a switch and two marks, and these lines."""
        return "\n".join(["switches A B", "marks 1 3 5", *lines])

    def test_forms_of_rows(self):
        self.bad(3, *map(self.line, ["", " ", "1", "1 ", " 1 types none", "1  types none", "types none", "1 types none ", "2 types none", "A?1:1 types none", "B?A?1:0:0 types none", "C?1:0 types none",
                                     "A?1:m1?1:0 types none", "A?1:0types none", "1 Types none", "1 type none", "1 stuck 4 x", "1 fits", "1 names", "1 types", "1 cases", "A? 1:0 types none", "1\ttypes none"]))

    def test_names(self):
        for word in ("unknown", "twice", "count", "shape", "missing", "endless"):
            self.assertEqual(read_report(self.line(f"1 names 12 {word}")).rows, ((True, ("names", 12, word)),))
        self.bad(3, *map(self.line, ["1 names 5", "1 names 5 ", "1 names 5 wrong", "1 names 5 unknown ", "1 names  5 unknown", "1 names 5  unknown", "1 names 05 unknown", "1 names 00 unknown", "1 names -5 unknown",
                                     "1 names +5 unknown", "1 names 1234567890 unknown", "1 names x unknown", "1 names  unknown", "1 names 5 unknown twice", "1 names \u0665 unknown", "1 names 5_0 unknown", "1 names 5 Unknown"]))

    def test_cases(self):
        self.assertEqual(read_report(self.line("1 cases 0  x")).rows, ((True, ("cases", 0, " x")),))
        self.bad(3, *map(self.line, ["1 cases 5", "1 cases 5 ", "1 cases 05 _", "1 cases 1234567890 _", "1 cases  _", "1 cases _", "1 cases -1 _"]))

    def test_lots(self):
        for lots, told in (("none", ((),)), ("1", ((1,),)), ("1+3+5", ((1, 3, 5),)), ("1+3,1+5,3+5", ((1, 3), (1, 5), (3, 5))), ("1,3+5", ((1,), (3, 5))), ("1+3,5", ((1, 3), (5,)))):
            self.assertEqual(read_report(self.line(f"1 types {lots}")).rows, ((True, ("types", told)),))
        self.bad(3, *map(self.line, [f"1 types {lots}" for lots in (
            "2", "1+2", "3+1", "1+1", "1,1", "3,1", "3+5,1", "1+5,1+3", "1,1+3", "1+3,1+3+5", "1+3,3", "none,1", "1,none", "None", "1+", "+1", "1,", ",1", "1,,3", "1++3", "1 3", "1, 3", "1 +3", "01", "()",
            "1+3+5,3", "7", "0", "none ", " none", "\u0661", "1.3", "13")]))

    def test_schemes(self):
        self.bad(3, *map(self.line, [f"1 fits {text}" for text in (
            "int", "(scheme)", "(scheme  int)", "(scheme int) ", " (scheme int)", "(scheme ?1)", "(scheme (record | ?0))", "(scheme int) x", "(scheme (tuple int))", "(scheme (of true))")]))

    def test_tables(self):
        good = ["A?0:B?0:1 types none", "A?0:B?1:0 names 1 twice", "A?1:0 fits (scheme int)"]
        self.assertEqual(len(read_report(self.line(*good)).rows), 3)
        self.bad(3, self.line("0 types none", *good))
        self.bad(3, self.line("0 types none"))
        # It holds where an earlier one does.
        self.bad(4, self.line("1 types none", "A?1:0 types 1"))
        self.bad(5, self.line(*good[:2], "A?1:B?1:0 fits (scheme int)"), self.line(*good[:2], "1 fits (scheme int)"))
        self.bad(6, self.line(*good, "A?B?1:0:0 types 1"))
        # The order of the least settings.
        self.bad(4, self.line(good[1], good[0], good[2]), self.line(good[2], good[0], good[1]), self.line("A?0:B?1:0 types 1", "A?0:B?0:1 types 3", good[2]))
        self.bad(5, self.line(good[0], good[2], good[1]))
        # An earlier line has an equal verdict.
        self.bad(5, self.line(*good[:2], "A?1:0 types none"))
        self.bad(4, self.line("A?0:1 fits (scheme int)", "A?1:0 fits (scheme int)"), self.line("A?0:1 types 1+3", "A?1:0 types 1+3"))
        # Not all settings are covered: one more than the number of lines.
        self.bad(5, self.line(*good[:2]))
        self.bad(4, self.line("A?0:1 types none"), self.line("A?1:B?1:0 types none"))
        self.bad(3, self.line(), "switches\nmarks")
        # Something behind the end; an empty line is one.
        self.bad(6, self.line(*good, ""), self.line(*good, "0 types 1"))
        self.bad(4, "switches\nmarks\n1 types none\n")

    def test_lines_that_are_moved_doubled_and_missing(self):
        lines = self.GOOD.split("\n")
        for k in range(len(lines)):
            twice = [*lines[:k + 1], *lines[k:]]
            self.bad(k + 2, "\n".join(twice))
            less = [*lines[:k], *lines[k + 1:]]
            self.bad(k + 1 if k < 2 else len(lines), "\n".join(less))
            if k:
                self.bad(k if k < 3 else k + 1, "\n".join([*lines[:k - 1], lines[k], lines[k - 1], *lines[k + 1:]]))

    def test_the_first_line_that_is_not_valid(self):
        self.bad(1, "switches B A\nmarks 2 1\nx")
        self.bad(2, "switches A B\nmarks 2 1\nx")
        self.bad(3, self.line("x", "0 types none"))
        self.bad(4, self.line("A?0:1 types none", "A?1:0 types none", "x"))

    def test_spoilt_signs(self):
        """Whatever one sign becomes: the text is refused, or it is written again as it was."""
        for seed in range(1500):
            chance = random.Random(seed)
            at = chance.randrange(len(self.GOOD))
            sign = chance.choice(["", " ", "\n", "0", "1", "2", "A", "B", "?", ":", "+", ",", "e", "(", ")", "_", "9"])
            text = self.GOOD[:at] + sign + self.GOOD[at + chance.randint(0, 1):]
            line = self.GOOD[:at].count("\n") + 1
            try:
                r = read_report(text)
            except BadReport as error:
                self.assertGreaterEqual(error.line, line)
            else:
                self.assertEqual(r.written(), text)
                self.assertEqual(table_faults(r.rows, r.switches), [])


class Random(unittest.TestCase):
    def compare(self, tree):
        before = copy.deepcopy(tree)
        c = check(tree)
        r = report_of(c)
        self.assertEqual((r.switches, r.marks), (c.switches, c.marks))
        self.assertEqual(table_faults(r.rows, c.switches), [])
        self.assertTrue(is_condition(r.fitting))
        for setting in every_setting(c.switches):
            verdict = verdict_at(check(chosen(tree, setting)), ())
            if verdict[0] == "types":
                verdict = verdict_at(c, setting)
            if verdict[0] == "cases":
                verdict = (*verdict[:2], shape_text(verdict[2]))
            self.assertEqual(value_slowly(r.rows, setting), verdict)
            self.assertEqual(r.verdict([*setting, "Z"]), verdict)
            self.assertEqual(holds_slowly(r.fitting, setting), verdict[0] == "fits")
        again = read_report(r.written())
        self.assertEqual((again.switches, again.marks, again.rows), (r.switches, r.marks, r.rows))
        self.assertEqual(again.written(), r.written())
        self.assertEqual(tree, before)
        return {verdict[0] for _, verdict in r}

    def test_programs(self):
        stages = set()
        for seed in range(150):
            chance = random.Random(seed)
            stages |= self.compare(Programs(chance, ("A", "B", "C")[:seed % 4], chance.choice([(), (1, 2), (6, 2, 3)]), chance.choice([0.01, 0.03]),
                                            0.2, seed % 2).program(chance.randint(0, 5), chance.randint(2, 5)))
        self.assertEqual(stages, {"names", "types", "cases", "fits"})

    def test_bare_terms(self):
        for seed in range(300):
            self.compare(BareTerms(random.Random(seed), ("A", "B", "C")[:seed % 4], (1, 3, 5)[:seed % 4]).program())


class Large(unittest.TestCase):
    def test_many_rows(self):
        start = time.time()
        text = "(choose A 1 true)"
        for switch in "BCDEFGH":
            text = f"(tuple (choose {switch} 1 true) {text})"
        for k in range(1, 5):
            text = f"(tuple {text} (choose A (mark {k} 1) 2))"
        r = report_of(check(read_program(f"(program (main {text}))")))
        self.assertEqual((len(r.rows), r.fitting), (256, True))
        self.assertEqual(read_report(r.written()).rows, r.rows)
        rows = tuple((read_condition(_only(TWELVE, k)), ("cases", k, "_")) for k in range(4096))
        r = Report(sorted(TWELVE), (), rows)
        self.assertEqual(read_report(r.written()).rows, rows)
        self.assertLess(time.time() - start, 8)


def _only(names, code):
    """The text of the condition of one setting: a figure of the code for each switch, the least first."""
    text = "1"
    for at, name in enumerate(sorted(names)[::-1]):
        text = f"{name}?{text}:0" if code >> at & 1 else f"{name}?0:{text}"
    return text


if __name__ == "__main__":
    unittest.main()
