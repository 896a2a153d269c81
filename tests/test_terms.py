"""[6.1] to [6.6]: letters, schemes, instances, compared with other ways to tell them."""

import copy
import random
import unittest

from eacharm.terms import is_instance, letters_in, more_general, row_letters_in, scheme_of
from plainstore import PlainStore

INT, BOOL = ("int",), ("bool",)


def letter(k):
    return ("letter", k)


def record(tail=None, **fields):
    return ("record", tuple(sorted(fields.items())), tail)


def variant(tail=None, **fields):
    return ("variant", tuple(sorted(fields.items())), tail)


def seen(term):
    """The letters as [6.4] sees them, with repetitions: pairs (letter, is a tail)."""
    word = term[0]
    if word == "letter":
        return [(term[1], False)]
    if word in ("record", "variant", "row"):
        tail = [] if term[2] is None else [(term[2], True)]
        return [pair for _, part in term[1] for pair in seen(part)] + tail
    inside = {"arrow": term[1:], "cell": term[1:], "tuple": term[-1], "data": term[-1]}.get(word, ())
    return [pair for part in inside for pair in seen(part)]


class RandomTerms:
    """Random terms over letters from 0 and row letters from 100, in no order."""

    def __init__(self, seed, letters=4, rows=3):
        self.random = random.Random(seed)
        self.letters = self.random.sample(range(100), letters)
        self.rows = self.random.sample(range(100, 200), rows)

    def term(self, depth=3):
        chance = self.random
        if depth == 0 or chance.random() < 0.15:
            return chance.choice([
                INT, BOOL, ("hidden", "m", "t"), ("hidden", "n", "t"), ("stone", "5.a"),
                *[letter(k) for k in self.letters * 2]])
        word = chance.choice(["arrow", "tuple", "data", "cell", "record", "record", "variant"])
        if word in ("record", "variant"):
            return self.row_term(word, depth)
        many = {"arrow": 2, "cell": 1, "tuple": chance.randint(2, 4), "data": chance.randint(0, 3)}[word]
        parts = tuple(self.term(depth - 1) for _ in range(many))
        if word in ("arrow", "cell"):
            return (word, *parts)
        return (word, parts) if word == "tuple" else (word, chance.choice("de"), parts)

    def row_term(self, word, depth):
        labels = sorted(self.random.sample("lmno", self.random.randint(0, 3)))
        tail = self.random.choice([None, *self.rows * 2])
        return (word, tuple((label, self.term(depth - 1)) for label in labels), tail)

    def lacks(self):
        labels = lambda: self.random.choices("lmnop", k=self.random.randint(0, 2))
        return {k: labels() for k in (*self.rows, *self.letters[:1]) if self.random.random() < 0.6}


def labels_beside(term):
    """Pairs (row letter, label beside it)."""
    word = term[0]
    found = []
    if word in ("record", "variant", "row"):
        if term[2] is not None:
            found.extend((term[2], label) for label, _ in term[1])
        return found + [pair for _, part in term[1] for pair in labels_beside(part)]
    inside = {"arrow": term[1:], "cell": term[1:], "tuple": term[-1], "data": term[-1]}.get(word, ())
    return [pair for part in inside for pair in labels_beside(part)]


class Letters(unittest.TestCase):
    def test_by_hand(self):
        term = ("arrow", ("tuple", (letter(9), record(4, b=letter(2), a=letter(9)))), letter(0))
        self.assertEqual(letters_in(term), (9, 2, 4, 0))
        self.assertEqual(row_letters_in(term), (4,))
        self.assertEqual(letters_in(("row", (("l", letter(3)), ("m", letter(1))), 2)), (3, 1, 2))
        self.assertEqual(row_letters_in(("row", (), 2)), (2,))
        self.assertEqual(letters_in(("row", (), None)), ())
        for term in (INT, BOOL, ("hidden", "m", "t"), ("stone", "a"), ("data", "d", ()), record()):
            self.assertEqual((letters_in(term), row_letters_in(term)), ((), ()))
        self.assertEqual(letters_in(("data", "d", (letter(7), ("cell", letter(7)), letter(3)))), (7, 3))
        self.assertEqual(letters_in(variant(5, m=record(8), l=letter(6))), (6, 8, 5))

    def test_order(self):
        for seed in range(300):
            term = RandomTerms(seed).term(4)
            found = seen(term)
            self.assertEqual(letters_in(term), tuple(dict.fromkeys(k for k, _ in found)))
            self.assertEqual(row_letters_in(term), tuple(dict.fromkeys(k for k, row in found if row)))


class Schemes(unittest.TestCase):
    def test_example(self):
        term = ("arrow", ("record", (("l", letter(7)),), 4), letter(7))
        self.assertEqual(scheme_of(term, {4: ("m",)}), (
            ("arrow", ("record", (("l", letter(0)),), 1), letter(0)), ((1, ("l", "m")),)))
        self.assertEqual(scheme_of(term)[1], ((1, ("l",)),))

    def test_lacks(self):
        term = ("tuple", (record(9, m=INT), variant(3), record(9, l=letter(5))))
        lacks = {9: ["z", "a", "z", "m"], 5: ("q",), 77: ["x"], 3: ()}
        self.assertEqual(scheme_of(term, lacks)[1], ((0, ("a", "l", "m", "z")), (1, ())))
        self.assertEqual(scheme_of(term, {})[1], ((0, ("l", "m")), (1, ())))
        self.assertEqual(scheme_of(INT, lacks), (INT, ()))

    def test_order_of_lacks(self):
        term = ("tuple", tuple(record(k) for k in range(30, 16, -1)))
        self.assertEqual([k for k, _ in scheme_of(term)[1]], list(range(14)))

    def test_random(self):
        for seed in range(300):
            maker = RandomTerms(seed)
            term, lacks = maker.term(4), maker.lacks()
            done, told = scheme_of(term, lacks)
            numbers = dict.fromkeys(k for k, _ in seen(term))
            numbers = {k: at for at, k in enumerate(numbers)}
            self.assertEqual(renamed(term, numbers), done)
            rows = {k for k, row in seen(term) if row}
            right = [(numbers[k], tuple(sorted({l for j, l in labels_beside(term) if j == k}
                                               | set(lacks.get(k, ()))))) for k in rows]
            self.assertEqual(told, tuple(sorted(right)))
            self.assertEqual(scheme_of(done, dict(told)), (done, told))

    def test_equal_schemes(self):
        for seed in range(200):
            maker = RandomTerms(seed)
            term, lacks = maker.term(4), maker.lacks()
            other = {k: 1000 - k for k in range(200)}
            shifted = {other[k]: tuple(lacks[k]) for k in lacks}
            self.assertEqual(scheme_of(renamed(term, other), shifted), scheme_of(term, lacks))

    def test_arguments(self):
        term, lacks = ("tuple", (record(4), letter(1))), {4: ["m", "l"]}
        before = copy.deepcopy((term, lacks))
        scheme_of(term, lacks)
        is_instance(term, scheme_of(record(1), {1: ["m"]}), lacks)
        self.assertEqual((term, lacks), before)

    def test_deep(self):
        term = letter(3)
        for _ in range(99):
            term = ("cell", term)
        scheme = scheme_of(term)
        self.assertEqual(letters_in(scheme[0]), (0,))
        self.assertTrue(is_instance(term, scheme))
        term = letter(3)
        for _ in range(99):
            term = record(5, l=term)
        self.assertEqual(scheme_of(term)[1], ((1, ("l",)),))
        self.assertTrue(more_general(scheme_of(term), scheme_of(term)))


def renamed(term, numbers):
    word = term[0]
    if word == "letter":
        return letter(numbers[term[1]])
    if word in ("record", "variant", "row"):
        fields = tuple((label, renamed(part, numbers)) for label, part in term[1])
        return (word, fields, numbers.get(term[2]))
    if word in ("arrow", "cell"):
        return (word, *[renamed(part, numbers) for part in term[1:]])
    if word in ("tuple", "data"):
        return (*term[:-1], tuple(renamed(part, numbers) for part in term[-1]))
    return term


def fits_by_store(term, scheme, lacks):
    """[6.6] by equations: the letters of the term are made stones and labels of their own."""
    store = PlainStore()
    news = {}
    for k, is_row in seen(scheme[0]):
        news[k] = news.get(k, store.new_row(dict(scheme[1])[k]) if is_row else store.new_letter())
    store.unify(renamed(scheme[0], news), fixed_letters(term))
    if not store.living:
        return False
    for k, labels in scheme[1]:
        for label, _ in store.resolved(("row", (), news[k]))[1]:
            if label.startswith("zz"):
                j = int(label[2:])
                known = set(lacks.get(j, ())) | {l for i, l in labels_beside(term) if i == j}
                if not set(labels) <= known:
                    return False
    return True


def fixed_letters(term):
    word = term[0]
    if word == "letter":
        return ("stone", f"letter.{term[1]}")
    if word in ("record", "variant", "row"):
        fields = [(label, fixed_letters(part)) for label, part in term[1]]
        if term[2] is not None:
            fields.append((f"zz{term[2]}", INT))
        return (word, tuple(fields), None)
    if word in ("arrow", "cell"):
        return (word, *[fixed_letters(part) for part in term[1:]])
    if word in ("tuple", "data"):
        return (*term[:-1], tuple(fixed_letters(part) for part in term[-1]))
    return term


class Instances(unittest.TestCase):
    def test_example(self):
        term = ("record", (("l", INT), ("m", INT)), None)
        scheme = scheme_of(("record", (("l", letter(0)),), 1), {1: ("m",)})
        self.assertIs(is_instance(term, scheme), False)
        self.assertIs(is_instance(("record", (("l", INT), ("n", INT)), None), scheme), True)

    def says(self, right, term, general, lacks=None, asked=None):
        self.assertIs(is_instance(term, scheme_of(general, asked), lacks), right)
        self.assertIs(more_general(scheme_of(general, asked), scheme_of(term, lacks)), right)

    def test_letters(self):
        same = ("arrow", letter(1), letter(1))
        self.says(True, ("arrow", INT, INT), same)
        self.says(False, ("arrow", INT, BOOL), same)
        self.says(True, ("arrow", letter(0), letter(0)), same)
        self.says(False, ("arrow", letter(0), letter(1)), same)
        self.says(True, same, ("arrow", letter(0), letter(1)))
        self.says(False, letter(0), INT)
        self.says(True, INT, letter(0))
        self.says(True, record(3, l=INT), letter(9))
        self.says(False, ("stone", "a"), ("stone", "b"))
        self.says(True, ("stone", "a"), ("stone", "a"))
        self.says(True, ("stone", "a"), letter(2))

    def test_heads(self):
        terms = [INT, BOOL, ("arrow", INT, INT), ("tuple", (INT, INT)), ("tuple", (INT, INT, INT)),
                 record(), variant(), ("data", "d", ()), ("data", "e", ()), ("data", "d", (INT,)),
                 ("hidden", "m", "t"), ("hidden", "m", "u"), ("hidden", "n", "t"), ("cell", INT),
                 ("stone", "m"), record(l=INT), record(m=INT), variant(l=INT), ("cell", BOOL)]
        for one in terms:
            for other in terms:
                self.says(one == other, one, other)

    def test_rows(self):
        self.says(True, record(l=INT, m=BOOL), record(1, l=INT))
        self.says(True, record(l=INT), record(1, l=INT))
        self.says(False, record(m=BOOL), record(1, l=INT))
        self.says(False, record(l=BOOL), record(1, l=INT))
        self.says(False, variant(l=INT), record(1, l=INT))
        self.says(False, record(7, l=INT), record(l=INT))
        self.says(False, record(l=INT, m=INT), record(l=INT))
        self.says(True, record(7, l=INT), record(1, l=INT))
        self.says(True, record(7, l=INT), record(1))
        self.says(True, variant(7, m=INT, l=INT), variant(1, m=letter(0)))

    def test_lacked_labels(self):
        self.says(False, record(l=INT), record(1), asked={1: ["l"]})
        self.says(True, record(m=INT), record(1), asked={1: ["l"]})
        self.says(False, record(7), record(1), asked={1: ["l"]})
        self.says(False, record(7), record(1), {7: ["m"]}, {1: ["l"]})
        self.says(True, record(7), record(1), {7: ["m", "l"]}, {1: ["l"]})
        self.says(True, record(7), record(1), {7: ["m", "l"]})
        self.says(True, ("tuple", (record(7, l=INT), record(7))), ("tuple", (record(1, l=INT), record(1))))
        # The label beside the letter at another place of the term counts.
        self.says(True, ("tuple", (record(7), record(7, l=INT))), ("tuple", (record(1), letter(0))),
                  asked={1: ["l"]})
        self.says(False, ("tuple", (record(7), record(8, l=INT))), ("tuple", (record(1), letter(0))),
                  asked={1: ["l"]})

    def test_one_letter_at_two_places(self):
        pair = lambda one, other: ("tuple", (one, other))
        self.says(True, pair(record(l=INT), record(l=INT)), pair(record(1), record(1)))
        self.says(False, pair(record(l=INT), record(l=BOOL)), pair(record(1), record(1)))
        self.says(False, pair(record(l=INT), record()), pair(record(1), record(1)))
        self.says(False, pair(record(3), record(4)), pair(record(1), record(1)))
        self.says(True, pair(record(3), record(3)), pair(record(1), record(1)))
        self.says(True, pair(record(m=INT), variant(m=INT)), pair(record(1), variant(1)))
        self.says(True, pair(record(l=INT, m=INT), record(m=INT)), pair(record(1, l=INT), record(1)))
        self.says(False, pair(record(m=INT), record(l=INT, m=INT)), pair(record(1, l=INT), record(1)))
        self.says(True, pair(pair(INT, letter(5)), pair(INT, letter(5))), pair(letter(0), letter(0)))

    def test_substitutions(self):
        for seed in range(300):
            maker = RandomTerms(seed)
            general = maker.term(3)
            scheme = scheme_of(general, maker.lacks())
            chance = maker.random
            rows = dict(scheme[1])
            news = {}
            for k in letters_in(scheme[0]):
                if k in rows:
                    free = [label for label in "lmnop" if label not in rows[k]]
                    some = sorted(chance.sample(free, chance.randint(0, len(free))))
                    news[k] = (tuple((label, maker.term(1)) for label in some), None)
                else:
                    news[k] = maker.term(2)
            self.assertIs(is_instance(replaced(scheme[0], news), scheme), True)

    def test_random(self):
        counts = {True: 0, False: 0}
        for seed in range(4000):
            maker = RandomTerms(seed, letters=2, rows=2)
            general, lacks = maker.term(2), maker.lacks()
            scheme = scheme_of(general, maker.lacks())
            term = mutated(general, maker) if seed % 3 else maker.term(2)
            right = fits_by_store(term, scheme, lacks)
            self.assertIs(is_instance(term, scheme, lacks), right)
            self.assertIs(more_general(scheme, scheme_of(term, lacks)), right)
            counts[right] += 1
        self.assertGreater(min(counts.values()), 500)

    def test_more_general_each_way(self):
        some = [scheme_of(t) for t in (
            letter(0), ("arrow", letter(0), letter(1)), ("arrow", letter(0), letter(0)),
            ("arrow", INT, letter(0)), ("arrow", INT, INT))]
        told = [[more_general(one, other) for other in some] for one in some]
        self.assertEqual(told, [
            [True, True, True, True, True], [False, True, True, True, True],
            [False, False, True, False, True], [False, False, False, True, True],
            [False, False, False, False, True]])
        for seed in range(100):
            scheme = scheme_of(RandomTerms(seed).term(3))
            self.assertIs(more_general(scheme, scheme), True)

    def test_lacks_each_way(self):
        loose, strict = scheme_of(record(1)), scheme_of(record(1), {1: ["l"]})
        self.assertIs(more_general(loose, strict), True)
        self.assertIs(more_general(strict, loose), False)


def replaced(term, news):
    word = term[0]
    if word == "letter":
        return news[term[1]]
    if word in ("record", "variant"):
        fields, tail = news.get(term[2], ((), None))
        mine = [(label, replaced(part, news)) for label, part in term[1]]
        return (word, tuple(sorted([*mine, *fields], key=lambda pair: pair[0])), tail)
    if word in ("arrow", "cell"):
        return (word, *[replaced(part, news) for part in term[1:]])
    if word in ("tuple", "data"):
        return (*term[:-1], tuple(replaced(part, news) for part in term[-1]))
    return term


def mutated(term, maker):
    """The term with some letters, tails and fields put otherwise."""
    chance, word = maker.random, term[0]
    if word == "letter":
        return chance.choice([term, INT, letter(maker.letters[0]), maker.term(1)])
    if word in ("record", "variant"):
        fields = [(label, mutated(part, maker)) for label, part in term[1]]
        if term[2] is not None and chance.random() < 0.4:
            free = [label for label in "lmno" if label not in dict(fields)]
            fields.extend((label, maker.term(1)) for label in chance.sample(free, 1))
        tail = chance.choice([term[2], term[2], None, *maker.rows]) if term[2] is not None else None
        return (word, tuple(sorted(fields, key=lambda pair: pair[0])), tail)
    if word in ("arrow", "cell"):
        return (word, *[mutated(part, maker) for part in term[1:]])
    if word in ("tuple", "data"):
        return (*term[:-1], tuple(mutated(part, maker) for part in term[-1]))
    return term


if __name__ == "__main__":
    unittest.main()
