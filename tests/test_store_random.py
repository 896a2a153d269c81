"""Part 7: random demands, compared with plain stores, one for each setting."""

import copy
import os
import random
import unittest

from eacharm.store import Store
from eacharm.terms import letters_in, row_letters_in
from plainstore import PlainStore
from settings import condition_from, every_setting, holds_slowly, random_condition, table_faults

LABELS = ("l", "m", "n")
SCRIPTS = int(os.environ.get("SCRIPTS", 60))


def implied(condition, other, names):
    return all(holds_slowly(other, s) for s in every_setting(names) if holds_slowly(condition, s))


def joined(conditions, names):
    return condition_from(lambda s: all(holds_slowly(c, s) for c in conditions), names)


class Script:
    """One store and a plain store for each setting, which are given the same demands."""

    def __init__(self, seed, switches, mild=False):
        self.random = random.Random(seed)
        self.mild = mild
        self.names = switches
        self.start = True if self.random.random() < 0.7 else self.condition()
        self.store = Store(self.start)
        self.settings = list(every_setting(switches))
        self.plain = {s: PlainStore() for s in self.settings}
        for s in self.settings:
            self.plain[s].living = holds_slowly(self.start, s)
        # Symbols: (condition of use, letter of the store, {setting: letter of the plain one}).
        self.letters = []
        self.rows = []
        self.tails = set()
        self.terms = []
        for _ in range(self.random.randint(6, 12) if mild else self.random.randint(3, 6)):
            self.new_letter()
        for _ in range(self.random.randint(4, 8) if mild else self.random.randint(1, 4)):
            self.new_row()

    def condition(self):
        chance = self.random.random()
        if chance < (0.2 if self.mild else 0.4):
            return True
        if chance < 0.7:
            name = self.random.choice(self.names)
            return self.random.choice([(name, True, False), (name, False, True)])
        return random_condition(self.random, self.names)

    def new_letter(self):
        own = {s: self.plain[s].new_letter() for s in self.settings}
        self.letters.append((True, self.store.new_letter(), own))

    def new_row(self):
        condition = self.condition()
        labels = self.random.sample(LABELS, self.random.randint(0, 1 if self.mild else 3))
        number = self.store.new_row(condition, labels)
        own = {}
        for s in self.settings:
            own[s] = self.plain[s].new_row(labels if holds_slowly(condition, s) else ())
        self.rows.append((True, number, own))

    def usable(self, symbols, condition):
        return [symbol for symbol in symbols if implied(condition, symbol[0], self.names)]

    def term(self, condition, depth, tails):
        """A random term as a pair (of the store, {setting: of the plain one})."""
        pick = self.random.random()
        if depth == 0 or pick < 0.35:
            return self.leaf(condition)
        if pick < (0.9 if self.mild else 0.65):
            words = ["record"] if self.mild else ["record", "variant"]
            return self.row_term(self.random.choice(words), condition, depth, tails)
        one = self.term(condition, depth - 1, tails)
        other = self.term(condition, depth - 1, tails)
        shape = lambda a, b: ("tuple", (a, b))
        if not self.mild:
            shape = self.random.choice([
                lambda a, b: ("arrow", a, b), lambda a, b: ("tuple", (a, b)),
                lambda a, b: ("cell", a), lambda a, b: ("data", "d", (a,)),
                lambda a, b: ("data", "e", (b, a))])
        return shape(one[0], other[0]), {s: shape(one[1][s], other[1][s]) for s in self.settings}

    def leaf(self, condition):
        if self.random.random() < (0.05 if self.mild else 0.2):
            plain = self.random.choice([("int",), ("bool",), ("hidden", "m", "t"), ("stone", "s")])
            return plain, {s: plain for s in self.settings}
        terms = self.usable(self.terms, condition)
        if terms and self.random.random() < 0.3:
            _, own, others = self.random.choice(terms)
            return own, others
        _, number, own = self.random.choice(self.usable(self.letters, condition))
        return ("letter", number), {s: ("letter", own[s]) for s in self.settings}

    def row_term(self, word, condition, depth, tails):
        labels = sorted(self.random.sample(LABELS, self.random.randint(0, 2)))
        fields = [self.term(condition, depth - 1, tails) for _ in labels]
        tail, own = None, {s: None for s in self.settings}
        if self.random.random() < (0.95 if self.mild else 0.7):
            _, tail, own = self.random.choice(self.usable(self.rows, condition))
            tails.append((tail, own, labels))
        made = (word, tuple(zip(labels, [f[0] for f in fields])), tail)
        return made, {
            s: (word, tuple(zip(labels, [f[1][s] for f in fields])), own[s]) for s in self.settings}

    def lack(self, condition, tail, own, labels):
        self.store.lack(condition, tail, labels)
        for s in self.settings:
            if holds_slowly(condition, s):
                self.plain[s].lack(own[s], labels)

    def good_term(self, condition, depth=2):
        """A random term whose tails lack the labels beside, as [7.1] wants."""
        tails = []
        pair = self.term(condition, depth, tails)
        for tail, own, labels in tails:
            self.lack(condition, tail, own, labels)
        return pair

    def good_row(self, condition):
        tails = []
        pair = self.row_term("row", condition, 2, tails)
        for tail, own, labels in tails:
            self.lack(condition, tail, own, labels)
        return pair

    def step(self):
        chance = self.random.random()
        condition = self.condition()
        if chance < 0.08:
            return self.new_row() if chance < 0.04 else self.new_letter()
        if chance < 0.16:
            _, tail, own = self.random.choice(self.usable(self.rows, condition))
            labels = self.random.choices(LABELS, k=self.random.randint(0, 1 if self.mild else 2))
            return self.lack(condition, tail, own, labels)
        if chance < 0.34:
            return self.copy(condition)
        maker = self.good_row if chance < 0.45 else self.good_term
        left, right = maker(condition), maker(condition)
        before = copy.deepcopy((left[0], right[0], condition))
        assert self.store.unify(condition, left[0], right[0]) is None
        assert before == (left[0], right[0], condition)
        for s in self.settings:
            if holds_slowly(condition, s):
                self.plain[s].unify(left[1][s], right[1][s])

    def copy(self, condition):
        term, own = self.good_term(condition)
        found = self.store.reach(condition, term)
        gens = {}
        for letter in sorted(found):
            if self.random.random() < 0.7:
                gens[letter] = joined([found[letter], self.condition()], self.names)
        before = copy.deepcopy((term, gens))
        old = {s: self.store.resolved_at(s, term) for s in self.settings}
        self.tails.update(k for s in old if old[s] is not None for k in row_letters_in(old[s]))
        kept = {k: {s: self.whole(s, k) for s in self.settings} for k in gens}
        made, fresh = self.store.copied(condition, term, gens)
        assert before == (term, gens)
        assert set(fresh) == set(gens)
        self.tails.update(fresh[k] for k in gens if k in self.tails)
        copies, news = {}, {k: {} for k in gens}
        for s in self.settings:
            copies[s] = ("int",)
            for k in gens:
                news[k][s] = None
                assert self.whole(s, k) == kept[k][s]
                if not holds_slowly(gens[k], s):
                    assert self.whole(s, fresh[k]) == kept[k][s]
            if holds_slowly(condition, s) and self.plain[s].living:
                copies[s] = self.plain_copy(s, old[s], own[s], gens, news)
        self.terms.append((condition, made, copies))
        for k in gens:
            if gens[k] is not False:
                target = self.rows if k in self.tails else self.letters
                target.append((gens[k], fresh[k], news[k]))

    def whole(self, s, letter):
        if letter in self.tails:
            return self.store.resolved_at(s, ("row", (), letter))
        return self.store.resolved_at(s, ("letter", letter))

    def plain_copy(self, s, old, own, gens, news):
        """The copy in the plain store, with the letters that stand at the same places."""
        store = self.plain[s]
        resolved = store.resolved(own)
        partner = dict(zip(letters_in(old), letters_in(resolved)))
        renewed = {}
        for k in gens:
            if holds_slowly(gens[k], s):
                other = partner[k]
                if other in store.lacked:
                    news[k][s] = store.new_row(store.lacked[other])
                else:
                    news[k][s] = store.new_letter()
                renewed[other] = news[k][s]
        return relettered(resolved, renewed)

    def whole_term(self, s):
        """All that can be used at a setting in one term, for both stores."""
        mine, yours = [], []
        for condition, number, own in self.letters:
            if holds_slowly(condition, s) and own[s] is not None:
                mine.append(("letter", number))
                yours.append(("letter", own[s]))
        for condition, number, own in self.rows:
            if holds_slowly(condition, s) and own[s] is not None:
                mine.append(("record", (), number))
                yours.append(("record", (), own[s]))
        for condition, term, others in self.terms:
            if holds_slowly(condition, s):
                mine.append(term)
                yours.append(others[s])
        return ("tuple", tuple(mine)), ("tuple", tuple(yours))


def relettered(term, renewed):
    if isinstance(term, tuple):
        if term and term[0] == "letter":
            return ("letter", renewed.get(term[1], term[1]))
        if term and term[0] in ("record", "variant", "row"):
            fields = tuple((label, relettered(part, renewed)) for label, part in term[1])
            return (term[0], fields, renewed.get(term[2], term[2]))
        return tuple(relettered(part, renewed) for part in term)
    return term


class RandomDemands(unittest.TestCase):
    def check(self, script):
        store = script.store
        for s in script.settings:
            plain = script.plain[s]
            self.assertIs(holds_slowly(store.living, s), plain.living)
            mine, yours = script.whole_term(s)
            if not plain.living:
                self.assertIsNone(store.scheme_at(s, mine))
                self.assertIsNone(store.resolved_at(s, mine))
                continue
            self.assertEqual(store.scheme_at(s, mine), plain.scheme(yours))
            resolved, other = store.resolved_at(s, mine), plain.resolved(yours)
            self.assertEqual(store.resolved_at(s, resolved), resolved)
            for one, two in zip(row_letters_in(resolved), row_letters_in(other)):
                self.assertEqual(store.lacks_at(s, one), tuple(sorted(plain.lacked[two])))
        self.check_reach(script)
        self.check_tables(script)

    def check_reach(self, script):
        for _ in range(3):
            condition = script.condition()
            term = script.leaf(condition)[0]
            found = script.store.reach(condition, term)
            for s in script.settings:
                there = {k for k in found if holds_slowly(found[k], s)}
                if holds_slowly(condition, s) and holds_slowly(script.store.living, s):
                    self.assertEqual(there, set(letters_in(script.store.resolved_at(s, term))))
                else:
                    self.assertEqual(there, set())
            self.assertNotIn(False, list(found.values()))

    def check_tables(self, script):
        condition = script.condition()
        mine = script.leaf(condition)[0]
        table = script.store.scheme_table(condition, mine)
        self.assertEqual(table_faults(table, script.names), [])
        for s in script.settings:
            right = script.store.scheme_at(s, mine) if holds_slowly(condition, s) else None
            found = [value for where, value in table if holds_slowly(where, s)]
            self.assertEqual(found, [] if right is None else [right])

    def run_scripts(self, seeds, switches, steps, mild=False):
        for seed in seeds:
            with self.subTest(seed=seed):
                script = Script(seed, switches, mild)
                for _ in range(steps):
                    script.step()
                    self.check(script)

    def test_two_switches(self):
        self.run_scripts(range(SCRIPTS), ("A", "B"), 8)

    def test_three_switches(self):
        self.run_scripts(range(1000, 1000 + SCRIPTS), ("A", "B", "m1"), 9)

    def test_long_scripts(self):
        self.run_scripts(range(3000, 3000 + SCRIPTS), ("A", "B", "m1"), 16, mild=True)

    def test_no_switch_matters(self):
        self.run_scripts(range(2000, 2040), ("A",), 10)


if __name__ == "__main__":
    unittest.main()
