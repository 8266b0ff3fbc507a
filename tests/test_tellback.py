"""Point 28: books told back as wishes."""

import random

from tests.helpers import SYMBOLS, Case, answers_by_words, balanced, comb, least_form_by_search, random_term
from twowaysigns.books import Book
from twowaysigns.errors import NoSuchSymbol
from twowaysigns.signatures import Signature
from twowaysigns.solving import meets, widest
from twowaysigns.tellback import told_back
from twowaysigns.trees import answers_of, tree_of
from twowaysigns.wishes import Wishes

S = Signature(SYMBOLS)
A = ("a",)
B = ("b",)


class TellbackTest(Case):

    def check(self, book, two_way="f", pair="p", by_words=True):
        wishes = told_back(book, two_way=two_way, pair=pair)
        self.assertIsInstance(wishes, Wishes)
        self.assertIs(book.signature, wishes.signature)
        self.same(tuple(f"X{k + 1}" for k in range(book.width)), wishes.asked)
        self.assertLessEqual(len(wishes.pairs), 6)
        self.only_tuples(wishes.pairs)
        self.assertEqual(book, widest(wishes))
        self.assertEqual(book, Book(book.signature, book.width, answers_of(wishes, tree_of(wishes))))
        if by_words:
            self.assertEqual(book.rows, least_form_by_search(answers_by_words(wishes.asked, wishes.pairs)))
        return wishes

    def test_no_row(self):
        for width in (1, 2, 3, 4):
            self.check(Book.nothing(S, width))

    def test_everything(self):
        for width in (1, 2, 3, 4):
            self.check(Book.everything(S, width))

    def test_each_width_with_each_number_of_rows(self):
        rng = random.Random(1)
        done = {}
        while len(done) < 12 or min(done.values()) < 4:
            width = rng.randint(1, 4)
            rows = [tuple(random_term(rng, rng.randint(1, 6)) for _ in range(width)) for _ in range(rng.randint(1, 3))]
            book = Book(S, width, rows)
            done[width, len(book)] = done.get((width, len(book)), 0) + 1
            self.check(book)

    def test_rows_with_the_symbols_themselves(self):
        for rows in [[(("f", "X", "Y"),)], [(("p", "X", "Y"),)], [(("p", "X", "X"),), (("f", "X", "X"),)],
                     [(("f", ("f", "X", "Y"), ("p", "X", A)),), (("p", ("f", "X", A), "X"),), (("f", ("p", A, B), B),)]]:
            self.check(Book(S, 1, rows))
        for rows in [[("X", ("f", "X", "X")), (("p", "X", "Y"), "X"), (("f", "X", "Y"), ("f", "Y", A))],
                     [("X", "X"), (("f", A, "X"), ("p", "X", "Y")), (("p", A, B), ("f", A, B))]]:
            self.check(Book(S, 2, rows))

    def test_variables_that_occur_several_times(self):
        self.check(Book(S, 3, [("X", "X", ("f", "X", "Y")), ("X", "Y", "X"), ("Y", ("g", "X"), ("g", "X"))]))
        self.check(Book(S, 4, [("X", "X", "X", "X"), ("X", "Y", A, B)]))

    def test_rows_at_the_bounds(self):
        deep = [comb("f", [f"X{k}" for k in range(12)]), balanced("f", ["X0", "X1", A, "X2", B, "X1"])]
        rows = [(deep[1], deep[1]), (comb("f", ["X", A] * 6), "X"), (("g", "X"), balanced("f", ["Y"] * 8))]
        self.check(Book(S, 2, rows), by_words=False)
        self.check(Book(S, 2, [(deep[0], "X1")]), by_words=False)

    def test_rows_meet_what_is_told_back(self):
        book = Book(S, 2, [("X", A), (("f", "X", B), "X")])
        wishes = told_back(book, two_way="f", pair="p")
        for row in [(B, A), (("f", A, B), A), (("f", B, "N"), "N"), (("f", A, A), A)]:
            self.assertIs(row in book, meets(wishes, row))
            self.assertIs(True, row in book)
        for row in [("X1", "X2"), (A, B), (("f", A, B), B), (("f", "N1", B), "L1")]:
            self.assertIs(False, meets(wishes, row))

    def test_no_such_symbol(self):
        signature = Signature([*SYMBOLS, ("h", 2, True), ("q", 2, False)])
        good_ones = [(two_way, pair) for two_way in ("f", "h") for pair in ("p", "q")]
        for rows in ([], [(A,)], [("X",)], [(A,), (B,)], [(A,), (B,), (("g", A),)]):
            book = Book(signature, 1, rows)
            for two_way, pair in good_ones:
                self.check(book, two_way, pair, by_words=False)
            for bad in ("a", "g", "p", "q", "nothing", "", "X1", "V1"):
                for pair in ("p", "f", "nothing"):
                    self.raises(NoSuchSymbol, {"name": bad}, told_back, book, two_way=bad, pair=pair)
            for bad in ("a", "g", "f", "h", "nothing", "", "X1", "V1"):
                self.raises(NoSuchSymbol, {"name": bad}, told_back, book, two_way="f", pair=bad)

    def test_names_by_keyword_alone(self):
        book = Book(S, 1, [(A,)])
        with self.assertRaises(TypeError):
            told_back(book, "f", "p")
        self.assertEqual(told_back(book, two_way="f", pair="p").pairs, told_back(pair="p", two_way="f", book=book).pairs)
