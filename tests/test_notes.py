"""Point 57: texts of lists of wishes."""

import random

from tests.helpers import SYMBOLS, Case, random_term
from tests.searches import text_by_words, wishes_text_by_words
from tests.test_texts import NESTED, changed
from twowaysigns.errors import BadText
from twowaysigns.notes import format_wishes, parse_wishes
from twowaysigns.signatures import Signature
from twowaysigns.wishes import Wishes

S = Signature(SYMBOLS)
A = ("a",)
B = ("b",)


def wishes_text(asked, pairs):
    """Return the text of wishes."""
    sides = [f" {text_by_words(one)} = {text_by_words(two)}" for one, two in pairs]
    return ", ".join(asked) + ":" + ";".join(sides)


class WishesTextTest(Case):

    def good(self, asked, pairs, text, signature=S):
        wishes = Wishes(signature, asked, pairs)
        self.same(text, format_wishes(wishes))
        self.same(text, format_wishes(wishes=wishes))
        for found in (parse_wishes(signature, text), parse_wishes(signature=signature, text=text)):
            self.assertIsInstance(found, Wishes)
            self.assertIs(signature, found.signature)
            self.same(tuple(asked), found.asked)
            self.same(tuple(pairs), found.pairs)
        self.assertEqual((len(text), True), wishes_text_by_words(text, signature.symbols))

    def bad(self, column, text, signature=S):
        self.assertEqual((column, False), wishes_text_by_words(text, signature.symbols))
        self.raises(BadText, {"column": column}, parse_wishes, signature, text)
        self.raises(BadText, {"column": column}, parse_wishes, signature=signature, text=text)

    def test_good_texts(self):
        self.good(["X", "Y"], [(("f", "X", A), ("f", B, "Y")), ("X", "X1")], "X, Y: f(X, a) = f(b, Y); X = X1")
        self.good(["X"], [], "X:")
        self.good(["X", "X1", "X01", "X12345"], [], "X, X1, X01, X12345:")
        self.good(("A",), ((A, "B"),), "A: a = B")
        self.good(["X"], [("X", A)] * 6, "X: X = a; X = a; X = a; X = a; X = a; X = a")
        self.good(["X"], [("X", "X")], "X: X = X", Signature([]))

    def test_only_something_is_missing(self):
        text = "X, Y1: f(X, a) = Y1; X = b"
        for many in range(len(text)):
            if text[:many] not in ("X, Y1:", "X, Y1: f(X, a) = Y1", "X, Y1: f(X, a) = Y"):
                self.bad(many, text[:many])
        for text in ("", "X", "X,", "X, ", "X, Y", "X: ", "X: X", "X: X ", "X: X =", "X: X = ", "X: X = f", "X: X = X;",
                     "X: X = X; ", "X: X = X; f(X", "X: X = X; X = X;"):
            self.bad(len(text), text)

    def test_asked_variables(self):
        for column, text in [
                (0, ":"), (0, " X:"), (0, "x:"), (0, "1"), (0, "a:"), (1, "XY:"), (1, "X Y:"), (2, "X,Y:"), (1, "X;"),
                (1, "X :"), (3, "X,  Y:"), (3, "X, :"), (3, "X, a:"), (6, "X123456:"), (4, "X, Y Z:"),
                (10, "A, B, C, D, E:"), (10, "A, B, C, D,"), (10, "A, B, C, D;"), (10, "A, B, C, D")]:
            self.bad(column, text)

    def test_asked_variables_that_are_asked_already(self):
        for column, text in [
                (4, "X, X:"), (4, "X, X"), (4, "X, X,"), (4, "X, X, Y:"), (6, "X1, X1:"), (6, "X1, X1"),
                (7, "X, Y, X:"), (12, "X1234, X1234:"), (12, "X1234, X1234"), (13, "X12345, X12345:"), (13, "X12345, X12345"),
                (13, "X12345, X12345 "), (13, "X12345, X1234"), (13, "X12345, X123451:"), (16, "X12345, Y, X12345:"),
                (16, "A, B, X12345, X1"), (19, "A, B, X12345, X12345:"), (14, "X12345, X12346"),
                (14, "X12345, X123461"), (8, "X, X1, X"), (9, "X, X1, X1"), (9, "X, X1, X1:")]:
            self.bad(column, text)
        self.good(["X", "X1"], [], "X, X1:")
        self.good(["X1234", "X12345", "X12346"], [], "X1234, X12345, X12346:")

    def test_pairs(self):
        for column, text in [
                (2, "X:X = a"), (3, "X:  X = a"), (2, "X:;"), (3, "X: ;"), (3, "X: = a"), (4, "X: X= a"),
                (5, "X: X  = a"), (6, "X: X =a"), (7, "X: X =  a"), (7, "X: X = c"), (8, "X: X = a,"), (8, "X: X = a "), (8, "X: X = aa"),
                (9, "X: X = a;X = a"), (9, "X: X = a;;"), (10, "X: X = a; ; X = a"), (10, "X: X = a;  X = a"),
                (8, "X: X = a: X = a"), (8, "X: X = X = X"), (6, "X: f(X; a) = a"), (4, "X: f = X"), (3, "X: c = X"),
                (6, "X: g(X, a) = X"), (9, "X: X = X1 = X"), (9, "X: X123456 = X"), (18, "X: X12345 = X12345 1")]:
            self.bad(column, text)

    def test_long_texts(self):
        self.bad(200, "X:" + " X = X;" * 28 + " X")
        self.bad(198, "X:" + " X = X;" * 28)
        self.bad(200, "X: " + "g(" * 98 + "g")
        self.bad(6, "X" + "1" * 199)

    def test_random_texts(self):
        rng = random.Random(5701)
        counts = {True: 0, False: 0}
        names = ("X", "Y", "X1", "X12345", "A00000", "Z", "B", "C")
        for _ in range(1500):
            symbols = rng.choice([SYMBOLS, NESTED, [("g", 1, False)], [("x", 2, True), ("x1", 0, False)]])
            signature = Signature(symbols)
            asked = [rng.choice(names) for _ in range(rng.randint(1, 5))]
            asked = list(dict.fromkeys(asked))[:4] if rng.random() < 0.7 else asked
            pairs = [tuple(random_term(rng, rng.randint(1, 6), names, symbols) for _ in range(2))
                     for _ in range(rng.randint(0, 4))]
            text = changed(rng, wishes_text(asked, pairs))
            column, is_whole = wishes_text_by_words(text, symbols)
            counts[is_whole] += 1
            if is_whole:
                self.same(text, format_wishes(parse_wishes(signature, text)))
            else:
                self.bad(column, text, signature)
        self.assertGreater(min(counts.values()), 200)
