"""Point 56: texts of terms."""

import random

from tests.helpers import SYMBOLS, Case, all_terms, comb, random_term, tower
from tests.searches import is_term_by_words, term_text_by_words, text_by_words
from twowaysigns.errors import BadText
from twowaysigns.signatures import Signature
from twowaysigns.texts import format_term, parse_term

S = Signature(SYMBOLS)
A = ("a",)
B = ("b",)
# Names that begin with other names, and one that is not complete without its digits.
NESTED = [("a", 0, False), ("ab", 2, True), ("abc", 1, False), ("abcd1234", 2, False), ("b2", 0, False)]
SIGNS = "XYA0123456789,:;= ()abcdfgp$xX"


def changed(rng, text):
    """Return the text with a few changes."""
    for _ in range(rng.choice([0, 1, 1, 2])):
        at, sign = rng.randint(0, len(text)), rng.choice(SIGNS)
        text = rng.choice([text[:at] + sign + text[at:], text[:at] + text[at + 1:], text[:at],
                           text[:at] + sign + text[at + 1:]])
    return text[:200]


class TextCase(Case):
    """Texts of one signature."""

    def good(self, term, text, signature=S):
        self.same(text, format_term(term))
        self.same(text, format_term(term=term))
        self.same(term, parse_term(signature, text))
        self.same(term, parse_term(signature=signature, text=text))
        self.assertEqual((len(text), True), term_text_by_words(text, signature.symbols))

    def bad(self, column, text, signature=S):
        self.assertEqual((column, False), term_text_by_words(text, signature.symbols))
        self.raises(BadText, {"column": column}, parse_term, signature, text)
        self.raises(BadText, {"column": column}, parse_term, signature=signature, text=text)


class TermTextTest(TextCase):

    def test_good_texts(self):
        for term, text in [("X", "X"), ("X1", "X1"), ("X01234", "X01234"), (A, "a"), (("g", "X"), "g(X)"),
                           (("f", "X", A), "f(X, a)"), (("p", ("f", B, "Y1"), ("g", ("g", A))), "p(f(b, Y1), g(g(a)))")
                           ]:
            self.good(term, text)
        for term in all_terms(4, ["X", A]):
            self.good(term, text_by_words(term))

    def test_the_example(self):
        self.bad(4, "f(X,a)")

    def test_only_something_is_missing(self):
        text = "p(f(X1, a), g(b))"
        for many in range(len(text)):
            self.bad(many, text[:many])
        for text in ("", "f", "g", "f(", "f(X", "f(X,", "f(X, ", "f(X, a", "g(g(g(a)", "p(a, g(f(b, X)"):
            self.bad(len(text), text)

    def test_something_is_wrong(self):
        for column, text in [
                (0, "c"), (0, "("), (0, " X"), (0, "1"), (0, "?"), (0, "~"), (1, "XX"), (1, "Xa"), (1, "X "), (1, "X("),
                (2, "X1("), (6, "X123456"), (6, "X12345678"), (1, "a("), (1, "aa"), (1, "a1"), (1, "a, b"), (1, "f X"),
                (2, "f()"), (3, "f(X)"), (2, "f( X, a)"), (3, "f(X , a)"), (5, "f(X,  a)"), (6, "f(X, a, b)"),
                (3, "g(X, a)"), (4, "g(X))"), (7, "f(X, a))"), (7, "f(X, a) "), (1, "fX"), (1, "f1(X, a)"),
                (2, "g(c)"), (5, "f(a, c)"), (2, "f((X, a))"), (7, "f(X, a)f(X, a)")]:
            self.bad(column, text)
        self.bad(1, "FX")
        self.bad(3, "f(X;a)")

    def test_names_that_begin_with_other_names(self):
        nested = Signature(NESTED)
        for term in [A, ("ab", A, "X"), ("abc", A), ("abcd1234", ("b2",), ("abc", ("ab", A, ("b2",)))), ("b2",)]:
            self.good(term, text_by_words(term), nested)
        for column, text in [
                (1, "b"), (1, "b("), (1, "b1"), (2, "b23"), (1, "a("), (2, "ab"), (2, "ab)"), (2, "abX"), (2, "abd"),
                (3, "abc"), (3, "abca"), (3, "abc,"), (4, "abcd"), (4, "abcd("), (7, "abcd123"), (8, "abcd1234"),
                (8, "abcd12345"), (1, "a2"), (4, "ab(a"), (4, "ab(a("), (5, "ab(ab"), (5, "ab(ab)"), (4, "ab(b,"),
                (6, "abc(ab"), (7, "ab(a, b"), (8, "ab(a, b2")]:
            self.bad(column, text, nested)

    def test_few_symbols(self):
        none = Signature([])
        self.good("X", "X", none)
        for column, text in [(0, ""), (0, "a"), (1, "X,"), (0, "f(X)"), (2, "X0f")]:
            self.bad(column, text, none)
        one = Signature([("g", 1, False)])
        self.good(("g", ("g", "X")), "g(g(X))", one)
        for column, text in [(1, "g"), (2, "g(a)"), (2, "g("), (6, "g(g(X)"), (2, "g()")]:
            self.bad(column, text, one)

    def test_long_texts(self):
        for term in (tower(66), comb("f", ["X"] * 33), tower(59, A), comb("p", ["X12345"] * 16)):
            text = text_by_words(term)
            self.assertLessEqual(len(text), 200)
            self.same(text, format_term(term))
            self.same(term, parse_term(S, text))
            self.raises(BadText, {"column": len(text)}, parse_term, S, text + ")")
            self.raises(BadText, {"column": len(text) - 1}, parse_term, S, text[:-1])
        self.raises(BadText, {"column": 200}, parse_term, S, "g(" * 100)
        self.raises(BadText, {"column": 200}, parse_term, S, "f(" * 100)
        self.raises(BadText, {"column": 6}, parse_term, S, "X" + "1" * 199)
        self.raises(BadText, {"column": 0}, parse_term, S, " " * 200)

    def test_random_texts(self):
        rng = random.Random(5601)
        counts = {True: 0, False: 0}
        for _ in range(1500):
            symbols = rng.choice([SYMBOLS, NESTED, [("g", 1, False)], [("x", 2, True), ("x1", 0, False)]])
            signature = Signature(symbols)
            term = random_term(rng, rng.randint(1, 8), ("X", "Y", "X1", "X12345", "A00000"), symbols)
            text = changed(rng, text_by_words(term))
            column, is_whole = term_text_by_words(text, symbols)
            counts[is_whole] += 1
            if is_whole:
                found = parse_term(signature, text)
                self.assertTrue(is_term_by_words(found, symbols))
                self.good(found, text, signature)
            else:
                self.bad(column, text, signature)
        self.assertGreater(min(counts.values()), 200)
