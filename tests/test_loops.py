"""The look for loops that change what they go over, on small functions."""

import ast
import textwrap
import unittest

from loops import changed_while_walked


def told_of(body):
    """What is told of a method with these rows, without the numbers of rows."""
    text = "class Box:\n    def told(self, xs, ys, c):\n" + textwrap.indent(body, " " * 8)
    return [row.partition(": ")[2] for row in changed_while_walked(ast.parse(text))]


class OneName(unittest.TestCase):
    def test_by_its_name(self):
        for change in ("xs.append(x)", "xs[0] = x", "del xs[0]", "xs += [x]", "xs.sort()",
                       "xs[0], k = x, 1", "xs[0] += 1"):
            for over in ("xs", "enumerate(xs)", "zip(ys, xs)", "reversed(xs)", "xs.items()"):
                rows = told_of(f"for x in {over}:\n    {change}\n")
                self.assertEqual(rows, [f"xs in a loop over {over}"])

    def test_its_row(self):
        text = "def told(xs):\n    for x in xs:\n        k = x\n        xs.append(k)\n"
        self.assertEqual(
            changed_while_walked(ast.parse(text)), ["4: xs in a loop over xs"])

    def test_before_a_return_and_in_a_nested_loop(self):
        self.assertEqual(len(told_of("for x in xs:\n    if x:\n        xs.pop()\n        return\n")), 1)
        self.assertEqual(len(told_of("for x in xs:\n    for y in ys:\n        xs.pop()\n")), 1)
        self.assertEqual(len(told_of("for x in xs:\n    k = [xs.pop() for y in ys]\n")), 1)

    def test_a_choice(self):
        for over in ("xs if c else ys", "ys or xs", "c and xs", "(zs := xs)"):
            self.assertEqual(len(told_of(f"for x in {over}:\n    xs.append(x)\n")), 1)
        self.assertEqual(len(told_of("for x in xs:\n    (ys if c else xs).append(x)\n")), 1)

    def test_an_attribute_and_an_item(self):
        self.assertEqual(len(told_of("for x in self.rows:\n    self.rows.append(x)\n")), 1)
        self.assertEqual(len(told_of("for x in xs[c]:\n    xs[c].append(x)\n")), 1)
        self.assertEqual(len(told_of("for x in xs.get(c, ys):\n    ys.append(x)\n")), 1)
        self.assertEqual(len(told_of("for x in xs[c]:\n    xs.append(x)\n")), 1)

    def test_what_a_call_is_passed(self):
        self.assertEqual(len(told_of("for x in steps(xs):\n    xs.append(x)\n")), 1)

    def test_comprehensions(self):
        for made in ("[xs.pop() for x in xs]", "{x: xs.pop() for x in xs}", "{xs.pop() for x in xs}",
                     "list(xs.pop() for x in xs)", "[y for x in xs for y in xs.pop()]",
                     "[x for x in xs if xs.pop()]", "[y for x in ys for y in xs if xs.pop()]"):
            self.assertEqual(told_of(f"return {made}\n"), ["xs in a loop over xs"])
        self.assertEqual(told_of("return [x for y in xs.pop() for x in ys]\n"), [])


class SeveralNames(unittest.TestCase):
    """Two names, attributes or items of one list."""

    def test_a_name_that_is_assigned_behind_the_loop(self):
        body = """\
            level = {x: 1 for x in xs}
            while level:
                below = {}
                for letter in OVER:
                    for inner in ys:
                        below[inner] = below.get(inner, 0) | 1
                level = below
            """
        body = textwrap.dedent(body)
        self.assertEqual(told_of(body.replace("OVER", "level")), ["below in a loop over level"])
        self.assertEqual(told_of(body.replace("OVER", "list(level)")), [])

    def test_rows_that_grow(self):
        body = """\
            ways = [()]
            for x in xs:
                longer = []
                for way in OVER:
                    longer.append((*way, x))
                ways = NEXT
            """
        body = textwrap.dedent(body).replace("NEXT", "longer")
        self.assertEqual(told_of(body.replace("OVER", "ways")), ["longer in a loop over ways"])
        self.assertEqual(told_of(body.replace("OVER", "list(ways)")), [])
        self.assertEqual(told_of(body.replace("OVER", "ways").replace("= longer", "= list(longer)")), [])

    def test_ways_to_assign(self):
        for row in ("ys = xs", "xs = ys", "zs = xs; ys = zs", "xs = zs; ys = zs", "ys = k = xs",
                    "ys = xs if c else []", "ys = c or xs", "xs, ys = ys, xs", "c, (ys, k) = k, (xs, c)",
                    "ys: list = xs", "if ys := xs: pass", "ys = (zs := xs)"):
            told = told_of(f"{row}\nfor x in xs:\n    ys.append(x)\n")
            self.assertEqual(told, ["ys in a loop over xs"], row)
        for row in ("ys = list(xs)", "ys = xs[1:]", "ys = [*xs]", "ys = sorted(xs)", "ys = xs + xs",
                    "zs = xs; zs = ys"):
            self.assertEqual(told_of(f"{row}\nfor x in xs:\n    ys.append(x)\n"), [], row)

    def test_an_attribute_that_is_kept(self):
        self.assertEqual(len(told_of("rows = self.rows\nfor x in rows:\n    self.rows.append(x)\n")), 1)
        self.assertEqual(len(told_of("rows = self.rows\nfor x in self.rows:\n    rows.append(x)\n")), 1)
        self.assertEqual(len(told_of("self.rows = xs\nfor x in self.rows:\n    xs.append(x)\n")), 1)
        self.assertEqual(len(told_of("xs[0] = ys\nfor x in xs[0]:\n    ys.append(x)\n")), 1)

    def test_off_one_object(self):
        body = """\
            for row in OVER:
                group = self.classes[self.root(row)]
                group.labels[c] = row
            """
        body = textwrap.dedent(body)
        self.assertEqual(
            told_of(body.replace("OVER", "self.tails[c]")),
            ["group.labels in a loop over self.tails[c]"])
        self.assertEqual(told_of(body.replace("OVER", "list(self.tails[c])")), [])
        self.assertEqual(told_of(body.replace("OVER", "xs")), [])

    def test_ways_off_one_object(self):
        for row in ("self.ends[x] = 1", "self.ends.append(x)", "del self.ends[x]", "self.ends[x].pop()",
                    "x.ends.append(1)", "ends = self.ends; ends.append(x)",
                    "ends = self.table.get(x, []); ends.append(1)", "box = self.box; box.ends.append(x)"):
            self.assertEqual(len(told_of(f"for x in self.rows:\n    {row}\n")), 1, row)
            self.assertEqual(len(told_of(f"rows = self.rows\nfor x in rows:\n    {row}\n")), 1, row)

    def test_items_of_what_is_gone_over(self):
        self.assertEqual(told_of("for x in xs:\n    x.append(1)\n"), [])
        self.assertEqual(told_of("for x in xs:\n    xs[x].append(1)\n"), [])
        self.assertEqual(len(told_of("for x in xs:\n    for y in x:\n        x.append(1)\n")), 1)


class NothingToTell(unittest.TestCase):
    def test_another_list(self):
        self.assertEqual(told_of("zs = []\nfor x in xs:\n    zs.append(x)\n    ys[x] = 1\n"), [])
        self.assertEqual(told_of("zs = []\nfor x in self.rows:\n    zs.append(x)\n"), [])
        self.assertEqual(told_of("for x in self.rows:\n    c.rows.append(x)\n"), [])

    def test_copies(self):
        for over in ("list(xs)", "tuple(xs)", "sorted(xs)", "range(len(xs))", "list(xs.items())"):
            self.assertEqual(told_of(f"for x in {over}:\n    xs.append(x)\n"), [])

    def test_numbers_and_attributes(self):
        self.assertEqual(told_of("k = 0\nfor x in xs:\n    k += 1\n    self.k += 1\n"), [])
        self.assertEqual(told_of("for x in self.rows:\n    self.k += x\n    self.last = x\n"), [])

    def test_behind_the_loop(self):
        self.assertEqual(told_of("for x in xs:\n    pass\nelse:\n    xs.append(1)\nxs.pop()\n"), [])
        self.assertEqual(told_of("while xs:\n    xs.pop()\n"), [])

    def test_names_of_another_function(self):
        text = "def a(xs, ys):\n    ys = xs\ndef b(xs, ys):\n    for x in xs:\n        ys.pop()\n"
        self.assertEqual(changed_while_walked(ast.parse(text)), [])


if __name__ == "__main__":
    unittest.main()
