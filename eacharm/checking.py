"""The check: what each of a program's programs deserves, told once for all (Part 8)."""

from eacharm.choosing import marks_in, switches_in
from eacharm.conditions import both, fixed, no
from eacharm.declaring import names_of
from eacharm.scoping import faults_table
from eacharm.shapes import cases_table
from eacharm.tables import covered, fixed_table, narrowed, ordered_table, table_of
from eacharm.typewalk import shown_ways, typed_program


class Check:
    """What a check tells; made by `check` alone."""

    def __init__(self, program):
        self.program = program
        self.switches = switches_in(program)
        self.marks = marks_in(program)
        names = names_of(program)
        named = faults_table(names)
        refused = covered(named)
        typer, term = typed_program(program, names, no(refused))
        self.store = typer.store
        self.modules = {name: shown_ways(typer, name) for name in names.modules_of_top()}
        self.typable = self.store.living
        typed = self.with_marks(self.typable)
        cases = narrowed(cases_table(program), typed)
        self.stages = table_of([
            (refused, "names"), (no(typed), "types"), (covered(cases), "cases"), (True, "fits"),
        ])
        self.faults = ordered_table([*named, *cases])
        self.schemes = self.scheme_table(True, term)

    def with_marks(self, condition):
        """What a condition comes to where every mark is kept."""
        for mark in self.marks:
            condition = fixed(condition, f"m{mark}", True)
        return condition

    def scheme_table(self, condition, term):
        """The schemes of a term where the program has a typing, with every mark kept."""
        for mark in self.marks:
            condition = both(condition, (f"m{mark}", True, False))
        table = self.store.scheme_table(condition, term)
        for mark in self.marks:
            table = fixed_table(table, f"m{mark}", True)
        return table


def check(program):
    """The check of a program with choices and marks."""
    return Check(program)
