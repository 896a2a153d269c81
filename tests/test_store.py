"""Part 7: the store, by hand; test_store_random compares it with plain stores."""

import copy
import itertools
import random
import unittest

from eacharm.conditions import all_settings, both, count_settings, either, no, switch_condition
from eacharm.store import Store
from eacharm.tables import covered, value_at
from eacharm.terms import letters_in, read_scheme, scheme_of, scheme_text
from settings import every_setting, holds_slowly, is_condition, table_faults

A, B, C = ("A", True, False), ("B", True, False), ("C", True, False)
INT, BOOL = ("int",), ("bool",)


def letter(k):
    return ("letter", k)


def record(tail=None, **fields):
    return ("record", tuple(sorted(fields.items())), tail)


def row(tail=None, **fields):
    return ("row", tuple(sorted(fields.items())), tail)


def variant(tail=None, **fields):
    return ("variant", tuple(sorted(fields.items())), tail)


class Living(unittest.TestCase):
    def test_example(self):
        store = Store()
        k = store.new_letter()
        store.unify(A, letter(k), INT)
        store.unify(B, letter(k), BOOL)
        self.assertEqual(store.living, ("A", ("B", False, True), True))

    def test_created_with(self):
        self.assertIs(Store().living, True)
        self.assertIs(Store(False).living, False)
        self.assertEqual(Store(A).living, A)
        self.assertEqual(Store(living=A).living, A)
        store = Store(("A", B, False))
        store.unify(B, INT, INT)
        self.assertEqual(store.living, ("A", B, False))
        store.unify(B, INT, BOOL)
        self.assertIs(store.living, False)

    def test_returns_nothing(self):
        store = Store()
        tail = store.new_row()
        self.assertIsNone(store.unify(True, INT, INT))
        self.assertIsNone(store.unify(True, INT, BOOL))
        self.assertIsNone(store.unify(True, INT, BOOL))
        self.assertIsNone(store.lack(True, tail, ["l"]))

    def test_never_grows(self):
        store = Store()
        k = store.new_letter()
        store.unify(A, INT, BOOL)
        store.unify(True, letter(k), INT)
        store.unify(A, letter(k), BOOL)
        self.assertEqual(store.living, no(A))
        store.unify(False, INT, BOOL)
        self.assertEqual(store.living, no(A))
        self.assertEqual(store.scheme_table(True, letter(k)), ((no(A), (INT, ())),))

    def clash(self, left, right, dies=True, lacks=()):
        """The two sides under A, either way round: does A die, and does the rest live on?"""
        for one, other in ((left, right), (right, left)):
            store = Store()
            for _ in range(4):
                store.new_letter()
            for k in range(4):
                store.new_row(True, dict(lacks).get(k + 4, ()))
            store.unify(A, one, other)
            self.assertEqual(store.living, no(A) if dies else True, (one, other))

    def test_heads(self):
        terms = [INT, BOOL, ("arrow", INT, INT), ("tuple", (INT, INT)), ("tuple", (INT, INT, INT)),
                 record(), variant(), ("data", "d", ()), ("data", "e", ()), ("data", "d", (INT,)),
                 ("hidden", "m", "t"), ("hidden", "m", "u"), ("hidden", "n", "t"), ("cell", INT),
                 ("stone", "a"), ("stone", "b"), ("cell", BOOL), ("arrow", INT, BOOL),
                 ("data", "d", (BOOL,)), ("tuple", (INT, BOOL))]
        for one, other in itertools.combinations(terms, 2):
            self.clash(one, other)
        for term in terms:
            self.clash(term, term, dies=False)
            self.clash(letter(1), term, dies=False)

    def test_closed_rows(self):
        self.clash(record(l=INT), record(m=INT))
        self.clash(record(l=INT), record())
        self.clash(record(l=INT), record(l=INT, m=INT))
        self.clash(record(l=INT), record(l=BOOL))
        self.clash(variant(l=INT), variant())
        self.clash(row(l=INT), row())
        self.clash(record(4, l=INT), record(m=INT), lacks={4: ["l"]})
        self.clash(record(4, l=INT), record(), lacks={4: ["l"]})
        self.clash(record(4, l=INT), record(l=INT), dies=False, lacks={4: ["l"]})
        self.clash(record(4, l=INT), record(l=INT, m=BOOL), dies=False, lacks={4: ["l"]})
        self.clash(variant(4, l=INT), record(l=INT), lacks={4: ["l"]})

    def test_lacked_labels(self):
        self.clash(record(4), record(l=INT), lacks={4: ["l"]})
        self.clash(record(4), record(5, l=INT), lacks={4: ["l"], 5: ["l"]})
        self.clash(record(4), record(5, l=INT), dies=False, lacks={4: ["m"], 5: ["l"]})
        self.clash(row(4), row(l=INT), lacks={4: ["m", "l"]})
        self.clash(record(4, l=INT), record(5, m=INT), dies=False, lacks={4: ["l"], 5: ["m"]})
        self.clash(record(4, l=INT), record(5, m=INT), lacks={4: ["l", "m"], 5: ["m"]})
        self.clash(record(4, l=INT), record(5, m=INT), lacks={4: ["l"], 5: ["m", "l"]})

    def test_same_last_row_letter(self):
        lacks = {4: ["l", "m"]}
        self.clash(record(4, l=INT), record(4, m=INT), lacks=lacks)
        self.clash(record(4, l=INT), record(4), lacks=lacks)
        self.clash(record(4, l=INT), record(4, l=INT), dies=False, lacks=lacks)
        self.clash(record(4, l=INT), record(4, l=BOOL), lacks=lacks)
        store = Store()
        one, other, last = store.new_row(True, "l"), store.new_row(True, "m"), store.new_row()
        store.unify(A, row(one), row(last))
        store.unify(B, row(other), row(last))
        store.unify(True, record(one, l=INT), record(other, m=INT))
        self.assertEqual(store.living, no(both(A, B)))

    def test_letter_inside(self):
        self.clash(letter(0), ("arrow", letter(0), INT))
        self.clash(letter(0), ("tuple", (INT, ("cell", letter(0)))))
        self.clash(("arrow", letter(0), letter(1)), ("arrow", ("cell", letter(1)), ("cell", letter(0))))
        self.clash(letter(0), record(4, l=letter(0)), lacks={4: ["l"]})
        self.clash(record(4), record(5, l=record(4)), lacks={5: ["l"]})
        self.clash(row(4), row(l=record(4)))
        self.clash(row(4), row(5, l=("cell", record(4))), lacks={5: ["l"]})
        self.clash(letter(0), letter(0), dies=False)
        self.clash(row(4), row(4), dies=False)
        self.clash(("data", "d", (letter(0),)), letter(0))

    def test_inside_at_some_settings(self):
        store = Store()
        k, j = store.new_letter(), store.new_letter()
        store.unify(A, letter(j), ("cell", letter(k)))
        store.unify(True, letter(k), ("tuple", (INT, letter(j))))
        self.assertEqual(store.living, no(A))
        self.assertEqual(store.resolved_at((), letter(k)), ("tuple", (INT, letter(j))))

    def test_loops_of_different_settings(self):
        store = Store()
        k, j = store.new_letter(), store.new_letter()
        store.unify(A, letter(j), ("cell", letter(k)))
        store.unify(no(A), letter(k), ("cell", letter(j)))
        self.assertIs(store.living, True)
        self.assertEqual(store.resolved_at(["A"], letter(j)), ("cell", letter(k)))
        self.assertEqual(store.resolved_at([], letter(k)), ("cell", letter(j)))
        self.assertEqual(store.reach(True, letter(j)), {k: A, j: no(A)})
        made, fresh = store.copied(True, ("tuple", (letter(j), letter(k))), {k: A, j: no(A)})
        self.assertEqual(store.resolved_at(["A"], made), (
            "tuple", (("cell", letter(fresh[k])), letter(fresh[k]))))
        self.assertEqual(store.resolved_at([], made), (
            "tuple", (letter(fresh[j]), ("cell", letter(fresh[j])))))

    def test_lack(self):
        store = Store()
        tail = store.new_row(B, ["l"])
        store.unify(A, row(tail), row(m=INT))
        store.lack(True, tail, ("m", "l", "m"))
        self.assertEqual(store.living, no(A))
        self.assertEqual(store.lacks_at([], tail), ("l", "m"))
        self.assertEqual(store.lacks_at(["B"], tail), ("l", "m"))
        self.assertIsNone(store.lacks_at(["A"], tail))
        store.lack(C, tail, ["z"])
        self.assertEqual(store.lacks_at(["C"], tail), ("l", "m", "z"))

    def test_lack_before_and_after(self):
        for first in (True, False):
            store = Store()
            tail, last = store.new_row(), store.new_row(True, ["m"])
            if first:
                store.lack(B, tail, ["l", "z"])
            store.unify(A, row(tail), row(last, m=INT))
            if not first:
                store.lack(B, tail, ["l", "z"])
            self.assertIs(store.living, True)
            self.assertEqual(store.lacks_at(["A", "B"], last), ("l", "m", "z"))
            self.assertEqual(store.lacks_at(["A"], last), ("m",))
            self.assertEqual(store.lacks_at(["B"], last), ("m",))
            self.assertEqual(store.lacks_at(["B"], tail), ("l", "z"))


class Answers(unittest.TestCase):
    def test_example(self):
        store = Store()
        k = store.new_letter()
        store.unify(no(A), letter(k), ("arrow", INT, BOOL))
        self.assertEqual(store.scheme_table(True, letter(k)), (
            (no(A), (("arrow", INT, BOOL), ())), (A, (letter(0), ()))))

    def test_letters_are_new(self):
        store = Store()
        given = [store.new_letter() if at % 2 else store.new_row() for at in range(20)]
        self.assertEqual(len(set(given)), 20)
        made, fresh = store.copied(True, ("tuple", tuple(
            letter(k) for at, k in enumerate(given) if at % 2)), {k: True for k in given})
        self.assertEqual(len({*given, *fresh.values(), store.new_letter(), store.new_row()}), 42)
        self.assertTrue(all(type(k) is int and k >= 0 for k in (*given, *fresh.values())))

    def test_new_row(self):
        store = Store()
        self.assertEqual(store.lacks_at([], store.new_row()), ())
        self.assertEqual(store.lacks_at([], store.new_row(True, ["m", "l", "m"])), ("l", "m"))
        self.assertEqual(store.lacks_at([], store.new_row(labels=["l"])), ("l",))
        tail = store.new_row(condition=A, labels=("l",))
        self.assertEqual([store.lacks_at(s, tail) for s in ((), ["A"], ["B"])], [(), ("l",), ()])

    def test_rows_resolve(self):
        store = Store()
        one, other = store.new_row(True, ["l"]), store.new_row(True, ["m"])
        store.unify(True, record(one, l=INT), record(other, m=BOOL))
        for term in (record(one, l=INT), record(other, m=BOOL)):
            word, fields, tail = store.resolved_at([], term)
            self.assertEqual((word, fields), ("record", (("l", INT), ("m", BOOL))))
            self.assertEqual(store.lacks_at([], tail), ("l", "m"))
        word, fields, tail = store.resolved_at((), row(one))
        self.assertEqual((word, fields), ("row", (("m", BOOL),)))
        store.unify(A, row(tail), row())
        self.assertEqual(store.resolved_at(["A"], row(one)), row(m=BOOL))
        self.assertEqual(store.resolved_at(["A"], row(l=BOOL)), row(l=BOOL))

    def test_dead_settings(self):
        store = Store(A)
        tail = store.new_row()
        self.assertIsNone(store.resolved_at([], INT))
        self.assertIsNone(store.scheme_at([], INT))
        self.assertIsNone(store.lacks_at([], tail))
        self.assertEqual(store.scheme_table(True, INT), ((A, (INT, ())),))
        self.assertEqual(store.scheme_table(no(A), INT), ())
        self.assertEqual(store.scheme_table(False, INT), ())
        self.assertEqual(store.reach(no(A), record(tail)), {})
        self.assertEqual(store.reach(True, record(tail)), {tail: A})

    def test_settings(self):
        store = Store()
        k = store.new_letter()
        store.unify(both(A, B), letter(k), INT)
        for setting in (["B", "A"], ("A", "B", "A"), ["Z", "B", "m1", "A"]):
            self.assertEqual(store.resolved_at(setting, letter(k)), INT)
            self.assertEqual(store.scheme_at(setting, letter(k)), (INT, ()))
        for setting in ([], ["A"], ("B", "B"), ("Z",)):
            self.assertEqual(store.resolved_at(setting, letter(k)), letter(k))

    def test_reach_of_rows(self):
        store = Store()
        k, tail = store.new_letter(), store.new_row(True, ["l"])
        store.unify(A, row(tail), row(m=letter(k)))
        self.assertEqual(store.reach(True, row(tail, l=INT)), {tail: no(A), k: A})
        self.assertEqual(store.reach(B, variant(tail)), {tail: both(B, no(A)), k: both(A, B)})
        self.assertEqual(store.reach(True, ("tuple", (letter(k), record(tail)))), {
            tail: no(A), k: True})

    def test_dicts_are_new(self):
        store = Store()
        k, tail = store.new_letter(), store.new_row(True, ["l"])
        term = ("tuple", (letter(k), record(tail)))
        found = store.reach(True, term)
        found.clear()
        found[k] = False
        self.assertEqual(store.reach(True, term), {k: True, tail: True})
        gens = {k: True, tail: A}
        made, fresh = store.copied(True, term, gens)
        before = store.scheme_table(True, ("tuple", (term, made)))
        fresh.clear()
        gens[k] = False
        self.assertEqual(store.scheme_table(True, ("tuple", (term, made))), before)

    def test_arguments_are_kept(self):
        store = Store()
        k, tail = store.new_letter(), store.new_row()
        labels, setting, gens = ["m", "l", "m"], ["B", "A", "B"], {k: A, tail: True}
        before = copy.deepcopy((labels, setting, gens))
        store.new_row(A, labels)
        store.lack(A, tail, labels)
        store.resolved_at(setting, letter(k))
        store.scheme_at(setting, record(tail))
        store.lacks_at(setting, tail)
        store.copied(True, ("tuple", (letter(k), record(tail))), gens)
        self.assertEqual((labels, setting, gens), before)
        labels.append("z")
        self.assertEqual(store.lacks_at(["A"], tail), ("l", "m"))

    def test_scheme_table_joins_equal_schemes(self):
        store = Store()
        k, j = store.new_letter(), store.new_letter()
        store.unify(A, letter(k), ("cell", letter(j)))
        store.unify(no(A), letter(k), ("cell", letter(store.new_letter())))
        self.assertEqual(store.scheme_table(True, letter(k)), ((True, (("cell", letter(0)), ())),))
        tail = store.new_row(B, ["l"])
        table = store.scheme_table(True, record(tail))
        self.assertEqual(table, ((no(B), (record(0), ((0, ()),))), (B, (record(0), ((0, ("l",)),)))))

    def test_twelve_switches(self):
        names = [f"S{at:02}" for at in range(12)]
        store = Store()
        cells = [store.new_letter() for _ in names]
        for name, k in zip(names, cells):
            store.unify(switch_condition(name), letter(k), INT)
            store.unify(no(switch_condition(name)), letter(k), BOOL)
        parts = [("tuple", tuple(letter(k) for k in cells[at:at + 4])) for at in (0, 4, 8)]
        whole = store.new_letter()
        store.unify(True, letter(whole), ("tuple", tuple(parts)))
        table = store.scheme_table(True, letter(whole))
        self.assertEqual(len(table), 4096)
        self.assertIs(covered(table), True)
        self.assertEqual(value_at(table, names[:1])[0][1][0], ("tuple", (INT, BOOL, BOOL, BOOL)))
        self.assertEqual([t[1] for t in table], [store.scheme_at(s, letter(whole)) for s in all_settings(names)])
        for one, other in itertools.combinations(cells, 2):
            store.unify(True, letter(one), letter(other))
        self.assertEqual(count_settings(store.living, names), 2)


class Orders(unittest.TestCase):
    def demands(self, chance):
        """Random demands over letters 0 to 5 and row letters 6 to 9, which lack l, m and n."""
        shapes = [lambda a, b: ("arrow", a, b), lambda a, b: ("tuple", (a, b)), lambda a, b: record(l=a, m=b)]
        found = []
        for _ in range(chance.randint(4, 12)):
            pick = lambda: chance.choice([INT, *[letter(chance.randint(0, 5)) for _ in range(6)]])
            tail = lambda: chance.choice([None, 6, 7, 8, 9])
            side = lambda: chance.choice([pick(), chance.choice(shapes)(pick(), pick()),
                                          record(tail(), l=pick()), record(tail(), m=pick(), n=pick())])
            condition = chance.choice([True, A, no(A), B, both(A, C), either(B, C)])
            found.append((condition, side(), side()))
        return found

    def test_order_means_nothing(self):
        for seed in range(150):
            chance = random.Random(seed)
            demands = self.demands(chance)
            stores = []
            for _ in range(3):
                chance.shuffle(demands)
                store = Store()
                for _ in range(6):
                    store.new_letter()
                for _ in range(4):
                    store.new_row(True, ["l", "m", "n"])
                for condition, left, right in demands:
                    sides = (left, right) if chance.random() < 0.5 else (right, left)
                    store.unify(condition, *sides)
                stores.append(store)
            whole = ("tuple", (*[letter(k) for k in range(6)], *[record(k) for k in range(6, 10)]))
            first = stores[0]
            self.assertTrue(is_condition(first.living))
            for store in stores[1:]:
                self.assertEqual(store.living, first.living)
                self.assertEqual(store.scheme_table(True, whole), first.scheme_table(True, whole))


class Copies(unittest.TestCase):
    def setUp(self):
        self.store = Store()
        self.k, self.j = self.store.new_letter(), self.store.new_letter()
        self.tail = self.store.new_row(True, ["l"])

    def test_plain(self):
        store, k, j = self.store, self.k, self.j
        made, fresh = store.copied(True, ("arrow", letter(k), letter(j)), {k: True})
        self.assertEqual(made, ("arrow", letter(fresh[k]), letter(j)))
        self.assertEqual(list(fresh), [k])
        store.unify(True, letter(fresh[k]), INT)
        self.assertEqual(store.resolved_at([], letter(k)), letter(k))
        store.unify(True, letter(k), BOOL)
        self.assertIs(store.living, True)
        store.unify(True, letter(j), INT)
        self.assertEqual(store.resolved_at([], made), ("arrow", INT, INT))

    def test_no_keys(self):
        made, fresh = self.store.copied(True, record(self.tail, l=letter(self.k)), {})
        self.assertEqual((made, fresh), (record(self.tail, l=letter(self.k)), {}))

    def test_unlike_conditions(self):
        store, k, j, tail = self.store, self.k, self.j, self.tail
        term = ("tuple", (letter(k), letter(j), record(tail, l=letter(k))))
        gens = {k: A, j: no(A), tail: B}
        made, fresh = store.copied(True, term, gens)
        for s in every_setting("AB"):
            news = {old: fresh[old] if holds_slowly(gens[old], s) else old for old in gens}
            self.assertEqual(store.resolved_at(s, made), (
                "tuple", (letter(news[k]), letter(news[j]), record(news[tail], l=letter(news[k])))))
        for old in (k, j):
            store.unify(True, letter(fresh[old]), INT)
        self.assertEqual(store.resolved_at(["A"], letter(k)), letter(k))
        self.assertEqual(store.resolved_at([], letter(k)), INT)
        self.assertEqual(store.resolved_at(["A"], letter(j)), INT)
        self.assertEqual(store.resolved_at(["A"], letter(fresh[k])), INT)
        store.unify(True, letter(k), BOOL)
        self.assertEqual(store.living, A)

    def test_bound_elsewhere(self):
        # Off A the letter k is no representative; what it comes to is copied, too.
        store, k, j = self.store, self.k, self.j
        store.unify(no(A), letter(k), ("cell", letter(j)))
        made, fresh = store.copied(True, letter(k), {k: A, j: no(A)})
        self.assertEqual(store.resolved_at(["A"], made), letter(fresh[k]))
        self.assertEqual(store.resolved_at([], made), ("cell", letter(fresh[j])))
        self.assertEqual(store.resolved_at([], letter(fresh[k])), ("cell", letter(j)))
        self.assertEqual(store.resolved_at(["A"], letter(fresh[j])), letter(j))

    def test_rows(self):
        store, k, tail = self.store, self.k, self.tail
        store.lack(B, tail, ["m"])
        made, fresh = store.copied(True, record(tail, l=letter(k)), {tail: A})
        self.assertEqual(store.lacks_at(["A"], fresh[tail]), ("l",))
        self.assertEqual(store.lacks_at(["A", "B"], fresh[tail]), ("l", "m"))
        store.unify(True, row(fresh[tail]), row(m=INT))
        self.assertEqual(store.living, no(B))
        self.assertEqual(store.resolved_at(["A"], made), record(l=letter(k), m=INT))
        self.assertEqual(store.resolved_at(["A"], record(tail)), record(tail))
        self.assertEqual(store.resolved_at([], record(tail)), record(m=INT))

    def test_bound_rows(self):
        store, k, tail = self.store, self.k, self.tail
        last = store.new_row(True, ["l", "m"])
        store.unify(A, row(tail), row(last, m=letter(k)))
        made, fresh = store.copied(True, record(tail, l=INT), {last: A, k: A, tail: no(A)})
        self.assertEqual(store.resolved_at(["A"], made), record(fresh[last], l=INT, m=letter(fresh[k])))
        self.assertEqual(store.resolved_at([], made), record(fresh[tail], l=INT))
        self.assertEqual(store.lacks_at(["A"], fresh[last]), ("l", "m"))
        store.lack(A, fresh[last], ["z"])
        self.assertEqual(store.lacks_at(["A"], last), ("l", "m"))

    def test_under_a_condition(self):
        store, k = self.store, self.k
        store.unify(both(A, B), letter(k), INT)
        made, fresh = store.copied(A, ("cell", letter(k)), {k: both(A, no(B))})
        self.assertEqual(store.resolved_at(["A", "B"], made), ("cell", INT))
        self.assertEqual(store.resolved_at(["A"], made), ("cell", letter(fresh[k])))
        made, fresh = store.copied(False, ("cell", letter(k)), {k: False})
        self.assertEqual(store.resolved_at(["A", "B"], letter(fresh[k])), INT)
        self.assertEqual(store.resolved_at([], letter(fresh[k])), letter(k))

    def test_copies_keep_what_reach_tells(self):
        store, k, j = self.store, self.k, self.j
        store.unify(A, letter(k), ("arrow", letter(j), letter(j)))
        found = store.reach(True, letter(k))
        made, fresh = store.copied(True, letter(k), found)
        self.assertEqual(store.reach(True, letter(k)), found)
        self.assertEqual(store.reach(True, made), {fresh[key]: found[key] for key in found})
        self.assertEqual(store.scheme_table(True, made), store.scheme_table(True, letter(k)))

    def test_many_copies(self):
        store, k = self.store, self.k
        term = ("arrow", letter(k), record(self.tail, l=letter(k)))
        for name in ("A", "B", "C"):
            for on in (switch_condition(name), no(switch_condition(name))):
                made, fresh = store.copied(True, term, store.reach(True, term))
                store.unify(on, made, ("arrow", INT, record(l=INT, m=BOOL)))
        self.assertIs(store.living, True)
        self.assertEqual(store.scheme_table(True, term), ((True, scheme_of(term)),))


class Bounds(unittest.TestCase):
    def test_deep(self):
        store = Store()
        first = last = store.new_letter()
        for at in range(99):
            new = store.new_letter()
            store.unify(A if at % 2 else True, letter(new), ("cell", letter(last)))
            if at % 2:
                store.unify(no(A), letter(new), ("cell", letter(last)))
            last = new
        made, fresh = store.copied(True, letter(last), {first: A})
        for term in (letter(last), made):
            (found, scheme), = store.scheme_table(True, term)
            self.assertIs(found, True)
            self.assertEqual(read_scheme(scheme_text(scheme)), scheme)
        self.assertEqual(letters_in(store.resolved_at(["A"], made)), (fresh[first],))

    def test_wide(self):
        store = Store()
        leaves = store.new_letter(), store.new_letter()
        one, other = leaves
        for _ in range(14):
            for_one, for_other = store.new_letter(), store.new_letter()
            store.unify(True, letter(for_one), ("tuple", (letter(one), letter(one))))
            store.unify(True, letter(for_other), ("tuple", (letter(other), letter(other))))
            one, other = for_one, for_other
        store.unify(A, letter(one), letter(other))
        store.unify(B, letter(leaves[0]), INT)
        self.assertEqual(store.reach(True, letter(other)), {
            min(leaves): both(A, no(B)), max(leaves): no(A)})
        self.assertEqual(len(store.scheme_table(True, letter(one))), 2)
        made, fresh = store.copied(True, letter(one), store.reach(True, letter(one)))
        store.unify(both(B, A), made, letter(other))
        self.assertIs(store.living, True)

    def test_long_chains(self):
        store = Store()
        chain = [store.new_letter() for _ in range(2000)]
        for one, other in zip(chain, chain[1:]):
            store.unify(A, letter(other), letter(one))
        store.unify(both(A, B), letter(chain[-1]), INT)
        self.assertEqual(store.resolved_at(["A", "B"], letter(chain[0])), INT)
        rows = [store.new_row(True, [f"l{at}"]) for at in range(300)]
        for at, (one, other) in enumerate(zip(rows, rows[1:])):
            store.unify(True, row(one), row(other, **{f"l{at + 1}": INT}))
        self.assertEqual(len(store.resolved_at([], record(rows[0]))[1]), 299)
        self.assertEqual(table_faults(store.scheme_table(A, letter(chain[7])), "AB"), [])


if __name__ == "__main__":
    unittest.main()
