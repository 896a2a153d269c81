"""[6.7] and [6.8]: the texts of terms and schemes, and reading them."""

import re
import unittest

from eacharm.errors import BadSchemeText
from eacharm.terms import read_scheme, scheme_of, scheme_text, term_text
from test_terms import BOOL, INT, RandomTerms, labels_beside, letter, record, seen, variant

NAME = re.compile(r"[a-z][a-z0-9]{0,7}\Z")
RESERVED = ("true", "false", "hole", "int", "bool", "else")


def is_name(word):
    return isinstance(word, str) and bool(NAME.match(word)) and word not in RESERVED


def is_term(term):
    """Tells whether a value is a term of [6.1] with names as [6.8] wants them."""
    word, inside = term[0], term[1:]
    if word in ("int", "bool"):
        return term == (word,)
    if word == "letter":
        return type(inside[0]) is int and inside[0] >= 0
    if word == "stone":
        return re.fullmatch(r"[a-z0-9.]{1,40}", inside[0]) is not None
    if word == "hidden":
        return is_name(inside[0]) and is_name(inside[1])
    if word in ("arrow", "cell"):
        return len(inside) == {"arrow": 2, "cell": 1}[word] and all(map(is_term, inside))
    if word == "tuple":
        return 2 <= len(inside[0]) <= 4 and all(map(is_term, inside[0]))
    if word == "data":
        return is_name(inside[0]) and all(map(is_term, inside[1]))
    labels = [label for label, _ in inside[0]]
    return (word in ("record", "variant") and labels == sorted(set(labels))
            and all(map(is_name, labels)) and all(is_term(part) for _, part in inside[0])
            and (inside[1] is None or type(inside[1]) is int))


def is_scheme(scheme):
    term, lacks = scheme
    found = seen(term)
    rows = {k for k, row in found if row}
    if not is_term(term) or rows & {k for k, row in found if not row}:
        return False
    if list(dict.fromkeys(k for k, _ in found)) != list(range(len({k for k, _ in found}))):
        return False
    if [k for k, _ in lacks] != sorted(rows):
        return False
    for k, labels in lacks:
        beside = {label for j, label in labels_beside(term) if j == k}
        if list(labels) != sorted(set(labels)) or not beside <= set(labels):
            return False
        if not all(map(is_name, labels)):
            return False
    return True


class Texts(unittest.TestCase):
    def test_terms(self):
        for term, text in (
            (INT, "int"), (BOOL, "bool"), (letter(0), "?0"), (letter(12), "?12"),
            (("arrow", INT, ("arrow", BOOL, letter(3))), "(to int (to bool ?3))"),
            (("tuple", (INT, BOOL, letter(1))), "(tuple int bool ?1)"),
            (record(), "(record)"), (record(l=INT, m=BOOL), "(record (l int) (m bool))"),
            (record(0), "(record | ?0)"), (record(0, l=INT), "(record (l int) | ?0)"),
            (variant(), "(tags)"), (variant(0), "(tags | ?0)"), (variant(l=letter(2)), "(tags (l ?2))"),
            (variant(17, b=INT, a=INT), "(tags (a int) (b int) | ?17)"),
            (("data", "list", ()), "(of list)"), (("data", "d", (INT, letter(0))), "(of d int ?0)"),
            (("hidden", "m", "t"), "(from m t)"), (("cell", INT), "(cell int)"),
            (("stone", "12.a"), "(stone 12.a)"),
        ):
            self.assertEqual(term_text(term), text)

    def test_schemes(self):
        term = ("arrow", ("record", (("l", letter(7)),), 4), letter(7))
        text = "(scheme (to (record (l ?0) | ?1) ?0) (lacks 1 l))"
        self.assertEqual(scheme_text(scheme_of(term)), text)
        self.assertEqual(scheme_text(scheme_of(INT)), "(scheme int)")
        self.assertEqual(scheme_text(scheme_of(record(3))), "(scheme (record | ?0) (lacks 0))")
        self.assertEqual(
            scheme_text(scheme_of(("tuple", (record(3), variant(1, l=INT))), {3: ["z", "b"]})),
            "(scheme (tuple (record | ?0) (tags (l int) | ?1)) (lacks 0 b z) (lacks 1 l))")

    def test_read_again(self):
        for seed in range(500):
            maker = RandomTerms(seed)
            scheme = scheme_of(maker.term(4), maker.lacks())
            text = scheme_text(scheme)
            if len(text) <= 4000:
                self.assertEqual(read_scheme(text), scheme)

    def test_unlike_schemes_have_unlike_texts(self):
        texts = {}
        for seed in range(500):
            maker = RandomTerms(seed, letters=2, rows=1)
            scheme = scheme_of(maker.term(2), maker.lacks())
            self.assertEqual(texts.setdefault(scheme_text(scheme), scheme), scheme)


class Reading(unittest.TestCase):
    def bad(self, *texts):
        for text in texts:
            with self.assertRaises(BadSchemeText, msg=text):
                read_scheme(text)

    def good(self, *texts):
        for text in texts:
            scheme = read_scheme(text)
            self.assertTrue(is_scheme(scheme), text)
            self.assertEqual(scheme_text(scheme), text)

    def test_example(self):
        self.bad("(scheme ?1)")

    def test_good_ones(self):
        self.good("(scheme int)", "(scheme ?0)", "(scheme (record) )".replace(" )", ")"),
                  "(scheme (tags | ?0) (lacks 0))", "(scheme (of d ?0 ?1 ?0 int))", "(scheme (of d))",
                  "(scheme (tuple int int int int))", "(scheme (from m t))", "(scheme (stone a.1))",
                  "(scheme (tuple (record | ?0) (record | ?0)) (lacks 0 a))",
                  f"(scheme (stone {'a' * 40}))", "(scheme (record (abcdefgh int)))",
                  "(scheme (of lacks (from scheme tuple)))", "(scheme (record (record int) (tags int)))",
                  "(scheme (record (l ?0) | ?1) (lacks 1 l m))")

    def test_spacing(self):
        self.bad("", " ", "()", "(scheme)", "(scheme )", "( scheme int)", "(scheme int )", " (scheme int)",
                 "(scheme int) ", "(scheme  int)", "(scheme\nint)", "(scheme int)\n", "(scheme\tint)",
                 "(scheme (record(l int)))", "(scheme (record | ?0)(lacks 0))", "(scheme (record |?0) (lacks 0))",
                 "(scheme (record  | ?0) (lacks 0))", "(scheme (record | ?0 ) (lacks 0))", "(scheme ? 0)",
                 "(scheme (record | ?0) (lacks 0 ))", "(scheme(of d))")

    def test_brackets(self):
        self.bad("(scheme int", "scheme int)", "(scheme int))", "((scheme int)", "(scheme (int))", "scheme int",
                 ")(scheme int)", "(scheme int)(scheme int)", "int", "(scheme int) int", ")", "(", "))((",
                 "((scheme) int)", "(scheme ((cell) int))", "(scheme ())", "(scheme (()))")

    def test_words(self):
        self.bad("(Scheme int)", "(schema int)", "(scheme INT)", "(scheme integer)", "(scheme foo)",
                 "(scheme (to int))", "(scheme (to int int int))", "(scheme (to))", "(scheme (arrow int int))",
                 "(scheme (tuple int))", "(scheme (tuple))", "(scheme (tuple int int int int int))",
                 "(scheme (variant))", "(scheme (data d))", "(scheme (of))", "(scheme (of int))",
                 "(scheme (of (cell int)))", "(scheme (hidden m t))", "(scheme (from m))",
                 "(scheme (from m t u))", "(scheme (cell))", "(scheme (cell int int))", "(scheme (row | ?0))",
                 "(scheme (stone))", "(scheme (stone a b))", "(scheme (stone A))", "(scheme (stone a-b))",
                 f"(scheme (stone {'a' * 41}))", "(scheme (letter 0))", "(scheme (int))", "(scheme int int)",
                 "(scheme (stone (cell int)))", "(scheme (from m (cell int)))", "(scheme \u00e9)")

    def test_names(self):
        for name in ("true", "false", "hole", "int", "bool", "else", "abcdefghi", "A", "1a", "a-", "a_b",
                     "?0", "|", "\u0430", "a\u00b2"):
            self.bad(f"(scheme (of {name}))", f"(scheme (record ({name} int)))", f"(scheme (from {name} t))",
                     f"(scheme (from m {name}))", f"(scheme (tags ({name} int)))",
                     f"(scheme (record | ?0) (lacks 0 {name}))")

    def test_rows(self):
        self.bad("(scheme (record (m int) (l int)))", "(scheme (record (l int) (l int)))",
                 "(scheme (record l int))", "(scheme (record (l)))", "(scheme (record (l int int)))",
                 "(scheme (record l))", "(scheme (record ()))", "(scheme (record |))", "(scheme (record ?0))",
                 "(scheme (record | ?0 (l int)) (lacks 0 l))", "(scheme (record | int))",
                 "(scheme (record | ?0 | ?0) (lacks 0))", "(scheme (record ((l) int)))",
                 "(scheme (tags (m int) (l int) | ?0) (lacks 0 l m))", "(scheme (record | | ?0) (lacks 0))")

    def test_letters(self):
        self.bad("(scheme ?)", "(scheme ?00)", "(scheme ?01)", "(scheme ?-1)", "(scheme ?+0)", "(scheme ??0)",
                 "(scheme (to ?1 ?0))", "(scheme (to ?0 ?2))", "(scheme ?0a)", "(scheme 0)",
                 "(scheme (record (l ?1) | ?0) (lacks 0 l))", f"(scheme ?{'9' * 3000})",
                 "(scheme ?\u0660)", "(scheme ?\u00b2)", "(scheme ?1_0)", "(scheme ? )")

    def test_row_letters_as_letters(self):
        self.bad("(scheme (to ?0 (record | ?0)) (lacks 0))", "(scheme (to (record | ?0) ?0) (lacks 0))",
                 "(scheme (record (l ?0) | ?0) (lacks 0 l))")

    def test_lacks(self):
        self.bad("(scheme (record | ?0))", "(scheme (record (l int) | ?0) (lacks 0))",
                 "(scheme (record (l int) | ?0) (lacks 0 m))", "(scheme int (lacks 0))", "(scheme ?0 (lacks 0))",
                 "(scheme (record | ?0) (lacks 0 b a))", "(scheme (record | ?0) (lacks 0 a a))",
                 "(scheme (record | ?0) (lacks 0) (lacks 0))", "(scheme (record | ?0) (lacks 00))",
                 "(scheme (record | ?0) (lacks ?0))", "(scheme (record | ?0) (lacks))",
                 "(scheme (record | ?0) (lacks 1))", "(scheme (record | ?0) lacks)", "(scheme (record | ?0) 0)",
                 "(scheme (record | ?0) (lacks 0 (a)))", "(scheme (record | ?0) (lacks (0)))",
                 "(scheme (tuple (record | ?0) (record | ?1)) (lacks 1) (lacks 0))",
                 "(scheme (tuple (record | ?0) (record | ?1)) (lacks 0))", "(scheme (record | ?0) ())",
                 "(scheme (record | ?0) (lack 0))", "(scheme (lacks 0) (record | ?0))")

    def test_bounds(self):
        deep = lambda many: "(scheme " + "(cell " * many + "int" + ")" * many + ")"
        self.good(deep(99))
        self.bad(deep(100), deep(101), deep(500), "(" * 2000 + ")" * 2000, "(" * 4000)
        for head, many in (("(tuple int ", 99), ("(to bool ", 99), ("(of d ", 99), ("(record (l ", 49)):
            text = lambda k: "(scheme " + head * k + "int" + ")" * (head.count("(") * k + 1)
            self.good(text(many))
            self.bad(text(many + 1))
        wide = "(scheme (of d" + " int" * 996 + "))"
        self.assertEqual(len(wide), 3999)
        self.good(wide, wide.replace("(of d", "(of dd"))
        self.bad(wide.replace("(of d", "(of ddd"))

    def test_many_letters(self):
        text = "(scheme (of d " + " ".join(f"?{k}" for k in range(800)) + "))"
        self.assertLess(len(text), 4000)
        self.good(text)

    def test_one_sign_off(self):
        signs = "()| ?019amlz.-\n\u00e9"
        texts = ["(scheme (to (record (l ?0) | ?1) ?0) (lacks 1 l))",
                 "(scheme (tuple (tags (a int) (b (of d ?0)) | ?1) (cell bool) (from m t)) (lacks 1 a b z))",
                 "(scheme (to (stone 1.a) (record | ?0)) (lacks 0))"]
        for text in texts:
            self.good(text)
            others = {text[:at] + text[at + 1:] for at in range(len(text))}
            for sign in signs:
                others |= {text[:at] + sign + text[at:] for at in range(len(text) + 1)}
                others |= {text[:at] + sign + text[at + 1:] for at in range(len(text))}
            for at in range(len(text) - 1):
                others.add(text[:at] + text[at + 1] + text[at] + text[at + 2:])
            for other in others - {text}:
                self.good_or_bad(other)

    def good_or_bad(self, text):
        try:
            scheme = read_scheme(text)
        except BadSchemeText:
            return
        self.assertTrue(is_scheme(scheme), text)
        self.assertEqual(scheme_text(scheme), text)


if __name__ == "__main__":
    unittest.main()
