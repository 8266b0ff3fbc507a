"""Points 30, 31 and 32: falling sequences of books, sets of rows, and rows that part them."""

import itertools
import random

from tests.helpers import SYMBOLS, Case, all_terms, balanced, is_case_by_search, occurrences, put_in, random_term
from tests.test_sayings import random_saying, wished
from twowaysigns.books import Book
from twowaysigns.errors import BooksDiffer
from twowaysigns.layers import Layers, parting
from twowaysigns.sayings import Saying
from twowaysigns.signatures import Signature
from twowaysigns.solving import widest

S = Signature(SYMBOLS)
OTHER = Signature(SYMBOLS[::-1])
A = ("a",)
B = ("b",)
FEW = [("f", 2, True), ("g", 1, False)]
TERMS = all_terms(3, ["X", "Y", A, B], SYMBOLS)
PAIRS = list(itertools.product(all_terms(3, ["X", A], FEW), repeat=2))


def book_of(*rows, signature=S):
    """Return the book of rows; at least one is passed."""
    return Book(signature, len(rows[0]), rows)


def random_books(rng, width, most):
    """Return random books with at most 8 rows together."""
    symbols = rng.choice([SYMBOLS, FEW, [("f", 2, True), ("a", 0, False), ("b", 0, False)]])
    books = []
    for _ in range(rng.randint(0, most)):
        rows = [tuple(random_term(rng, rng.randint(1, 5), ("X", "Y"), symbols) for _ in range(width))
                for _ in range(rng.randint(0, 3))]
        books.append(Book(S, width, rows[:8 - sum(len(book) for book in books)]))
    return books


def some_rows(rng, width, books):
    """Return small rows, the rows of the books, and some of their cases."""
    found = [(term,) for term in TERMS] if width == 1 else rng.sample(PAIRS, 60)
    for row in [row for book in books for row in book]:
        names = sorted({name for term in row for name in occurrences(term)})
        found.append(row)
        for _ in range(5):
            table = {name: rng.choice(TERMS) for name in names}
            found.append(tuple(put_in(term, table) for term in row))
    return found


class FallingCase(Case):
    """What the tests of sets of rows check."""

    def falls(self, layers):
        """Check that the books of the set are a falling sequence."""
        self.assertIs(tuple, layers.books.__class__)
        for book in layers.books:
            self.assertIsInstance(book, Book)
            self.assertEqual((layers.signature, layers.width), (book.signature, book.width))
            self.assertFalse(book.is_empty)
        for book, following in zip(layers.books, layers.books[1:]):
            for row in following:
                self.assertTrue(any(is_case_by_search(row, wide) for wide in book))
            for row in book:
                self.assertFalse(any(is_case_by_search(row, wide) for wide in following))
        self.assertIs(layers.books == (), layers.is_empty)


class LayersTest(FallingCase):

    def test_fields(self):
        book = book_of(("X", A))
        layers = Layers(S, 2, [book])
        self.assertIs(S, layers.signature)
        self.same(2, layers.width)
        self.assertEqual((book,), layers.books)
        self.assertEqual(layers, Layers(signature=S, width=2, books=(book,)))

    def test_any_books_in_any_order(self):
        rng = random.Random(1)
        longest = 0
        for _ in range(60):
            width = rng.randint(1, 2)
            books = random_books(rng, width, 6)
            layers = Layers(S, width, books)
            self.falls(layers)
            longest = max(longest, len(layers.books))
            for row in some_rows(rng, width, books + list(layers.books)):
                self.assertIs(sum(row in book for book in books) % 2 == 1, row in layers)
            again = tuple(rng.sample(books, len(books)))
            self.assertEqual(layers.books, Layers(S, width, again).books)
            if books:
                twice = [rng.choice(books)] * 2
                self.assertEqual(layers.books, Layers(S, width, twice[:1] + books + twice[:1]).books)
        self.assertLess(2, longest)

    def test_one_set_passed_in_different_ways(self):
        wide, left, right = book_of(("X", "Y")), book_of(("X", A)), book_of((A, "X"))
        corner, both = book_of((A, A)), book_of((A, "X"), ("X", A))
        expected = Layers(S, 2, [wide, both]).books
        self.assertEqual((wide, both), expected)
        for books in [[both, wide], [corner, left, right, wide], [wide, right, left, corner], [wide, both, both, both],
                      [corner, wide, both, corner], [left, wide, right, corner, left, left]]:
            self.assertEqual(expected, Layers(S, 2, books).books)
        self.assertEqual((both, corner), Layers(S, 2, [left, right]).books)
        self.assertEqual((wide, both, corner), Layers(S, 2, [left, right, wide]).books)

    def test_the_same_book_several_times(self):
        book = book_of((("f", "X", A),), (("g", "X"),))
        for many in range(7):
            layers = Layers(S, 1, [book] * many)
            self.assertEqual((book,) if many % 2 else (), layers.books)

    def test_books_without_rows(self):
        nothing, book = Book.nothing(S, 1), book_of((A,))
        for books, expected in [([], ()), ([nothing], ()), ([nothing] * 6, ()), ([nothing, book, nothing], (book,))]:
            self.assertEqual(expected, Layers(S, 1, books).books)

    def test_rows_of_a_book_in_the_next_one_are_left_out(self):
        one, two = book_of((A,), (("f", "X", "Y"),)), book_of((B,), (("f", A, "Y"),), (("f", "X", "Y"),))
        self.assertEqual((book_of((A,), (B,)),), Layers(S, 1, [one, two]).books)
        one, two = book_of(("X", A), (("g", "X"), "Y")), book_of(("X", A), (("g", B), B))
        self.assertEqual((book_of((("g", "X"), "Y")), book_of((("g", "X"), A), (("g", B), B))),
                         Layers(S, 2, [one, two]).books)

    def test_six_books_with_many_common_rows(self):
        names = [f"X{k}" for k in range(6)]
        books = [Book(S, 1, [(balanced("p", names[:k] + [A] + names[k + 1:]),)]) for k in range(6)]
        layers = Layers(S, 1, books)
        self.assertEqual([6, 15, 20, 15, 6, 1], [len(book) for book in layers.books])
        self.assertEqual([Book.everything(S, 1), *layers.books], list((~layers).books))

    def test_several_rows_because_of_two_way_symbols(self):
        one, two = book_of((("f", "X", "Y"), "X")), book_of((("f", A, B), "X"))
        both = book_of((("f", A, B), A), (("f", A, B), B))
        self.assertEqual((one | two, both), Layers(S, 2, [one, two]).books)
        self.assertIn((("f", B, A), ("g", A)), Layers(S, 2, [two, one]))
        self.assertNotIn((("f", B, A), A), Layers(S, 2, [two, one]))

    def test_what_is_passed_is_not_kept(self):
        books = [book_of((A,)), book_of((B,))]
        layers = Layers(S, 1, books)
        self.assertEqual(2, len(books))
        books[0] = book_of(("X",))
        books.append(books[0])
        self.assertEqual((book_of((A,), (B,)),), layers.books)

    def test_books_differ(self):
        good = book_of((A,))
        self.assertEqual((good,), Layers(S, 1, [book_of((A,), signature=Signature(SYMBOLS))]).books)
        for bad in [book_of((A, A)), Book.nothing(S, 2), book_of((A,), signature=OTHER), Book.nothing(OTHER, 1)]:
            for books in [[bad], [good, bad], [bad, good, good], [bad, bad]]:
                self.raises(BooksDiffer, {}, Layers, S, 1, books)

    def test_is_empty(self):
        self.assertIs(True, Layers(S, 1, []).is_empty)
        self.assertIs(False, Layers(S, 1, [book_of((A,))]).is_empty)

    def test_in_a_row_of_another_width(self):
        for row in [(), (A,), (A, A, A), ("X", "Y", "Z", "W")]:
            self.assertIs(False, row in ~Layers(S, 2, []))
            self.assertIs(False, row in Layers(S, 2, []))


class SetsOfSayingsTest(FallingCase):

    def test_the_example(self):
        unlike = ~Saying(wished(("X", "Y")))
        books = Layers.of(unlike).books
        self.assertEqual([(("V1", "V2"),), (("V1", "V1"),), 2], [books[0].rows, books[1].rows, len(books)])
        self.assertEqual(books, Layers.of(saying=unlike).books)

    def test_lists_of_wishes(self):
        for wishes in [wished(), wished(("X", ("f", "Y", "Z"))), wished((("f", "X", "Y"), ("f", A, "Z")))]:
            layers = Layers.of(Saying(wishes))
            self.assertIsInstance(layers, Layers)
            self.assertEqual((widest(wishes),), layers.books)
            self.assertEqual((S, 2), (layers.signature, layers.width))
        self.assertEqual((), Layers.of(Saying(wished((A, B)))).books)

    def test_wishes_with_unlikenesses(self):
        rng = random.Random(2)
        lengths = {}
        for _ in range(60):
            wishes = wished(*[(random_term(rng, rng.randint(1, 5), ("X", "Y", "Z")),
                               random_term(rng, rng.randint(1, 3), ("X", "Y", "Z"))) for _ in range(rng.randint(0, 1))])
            bars = [wished((random_term(rng, rng.randint(1, 4), ("X", "Y")), random_term(rng, rng.randint(1, 3), ("X", "Y"))))
                    for _ in range(rng.randint(1, 3))]
            saying = Saying(wishes)
            for bar in bars:
                saying = saying & ~Saying(bar)
            layers = Layers.of(saying)
            self.falls(layers)
            lengths[len(layers.books)] = lengths.get(len(layers.books), 0) + 1
            first = [row for row in widest(wishes) if not any(row in widest(bar) for bar in bars)]
            self.assertEqual(first, list(layers.books[0]) if layers.books else [])
            for row in [row for book in layers.books[1:] for row in book]:
                self.assertTrue(any(row in widest(bar) for bar in bars))
        self.assertEqual([0, 1, 2], sorted(lengths))

    def test_against_is_met(self):
        rng = random.Random(3)
        inside = 0
        for _ in range(50):
            saying, meets = random_saying(rng, rng.randint(1, 5))
            layers = Layers.of(saying)
            self.falls(layers)
            for row in rng.sample(PAIRS, 20) + [row for book in layers.books for row in book]:
                inside += row in layers
                self.assertIs(saying.is_met(row), row in layers)
                self.assertIs(meets(row), row in layers)
        self.assertLess(200, inside)

    def test_sayings_met_by_the_same_rows(self):
        one, two, three = Saying(wished(("X", A))), Saying(wished(("X", "Y"))), Saying(wished(("Y", ("f", "Z", "X"))))
        for left, right in [(~(one & two), ~one | ~two), (one & (two | three), one & two | one & three), (~~three, three),
                            (one | ~one, ~(two & ~two)), (one & two, Saying(wished(("X", A), (A, "Y"))))]:
            self.assertEqual(Layers.of(left), Layers.of(right))
        for left, right in [(one, two), (one & two, one), (~three, three), (one | two, two)]:
            self.assertNotEqual(Layers.of(left), Layers.of(right))


class OperatorsTest(FallingCase):

    def test_against_in(self):
        rng = random.Random(4)
        for _ in range(40):
            width = rng.randint(1, 2)
            first, second = random_books(rng, width, 3), random_books(rng, width, 3)
            one, two = Layers(S, width, first), Layers(S, width, second)
            results = [one & two, one | two, one - two, one ^ two, ~one]
            for layers in results:
                self.assertIsInstance(layers, Layers)
                self.assertIs(S, layers.signature)
                self.assertEqual(width, layers.width)
                self.falls(layers)
            for row in some_rows(rng, width, first + second):
                left, right = row in one, row in two
                expected = [left and right, left or right, left and not right, left != right, not left]
                self.assertEqual(expected, [row in layers for layers in results])

    def test_laws(self):
        rng = random.Random(5)
        for _ in range(25):
            one, two = Layers(S, 1, random_books(rng, 1, 4)), Layers(S, 1, random_books(rng, 1, 3))
            self.assertEqual(one, ~~one)
            self.assertEqual(one - two, one & ~two)
            self.assertEqual(one | two, ~(~one & ~two))
            self.assertEqual(one ^ two, (one - two) | (two - one))
            self.assertEqual(one ^ two, Layers(S, 1, one.books + two.books))
            self.assertTrue((one & ~one).is_empty)
            self.assertEqual((Book.everything(S, 1),), (one | ~one).books)
            self.assertIs((one - two).is_empty, one.within(two))
            self.assertIs(True, one.within(one | two))
            self.assertIs(True, (one & two).within(other=two))
            self.assertIs(one == two, parting(one, two) is None)

    def test_equal(self):
        layers = Layers(S, 1, [book_of((A,)), book_of((B,))])
        for other in [Layers(S, 1, [book_of((A,), (B,))]), Layers(Signature(SYMBOLS), 1, [book_of((B,), (A,))])]:
            self.assertIs(True, layers == other)
            self.assertIs(False, layers != other)
        for other in [Layers(S, 1, [book_of((A,))]), layers.books, layers.books[0], None, 1, "x", S, (), ~layers,
                      Layers(OTHER, 1, [book_of((A,), (B,), signature=OTHER)])]:
            self.assertIs(False, layers == other)
            self.assertIs(True, layers != other)
        self.assertIs(False, Layers(S, 1, []) == Layers(S, 2, []))
        self.assertIs(False, Layers(S, 1, []) == Layers(OTHER, 1, []))

    def test_within(self):
        everything, unlike = ~Layers(S, 2, []), Layers.of(~Saying(wished(("X", "Y"))))
        left = Layers.of(Saying(wished(("X", A), ("Y", B))))
        for one, two, expected in [(left, unlike, True), (unlike, left, False), (unlike, everything, True),
                                   (everything, unlike, False), (left, left, True), (Layers(S, 2, []), left, True),
                                   (left, Layers(S, 2, []), False), (left, ~unlike, False)]:
            self.assertIs(expected, one.within(two))

    def test_books_differ(self):
        one = Layers(S, 1, [book_of((A,))])
        self.assertEqual(one, one | Layers(Signature(SYMBOLS), 1, []))
        for two in [Layers(S, 2, []), Layers(S, 2, [book_of((A, A))]), Layers(OTHER, 1, []), ~Layers(OTHER, 1, [])]:
            for left, right in [(one, two), (two, one), (Layers(S, 1, []), two)]:
                for call in [lambda: left & right, lambda: left | right, lambda: left - right, lambda: left ^ right,
                             lambda: left.within(right), lambda: parting(left, right)]:
                    self.raises(BooksDiffer, {}, call)


class PartingTest(FallingCase):

    def test_equal_sets(self):
        one = Layers(S, 1, [book_of((A,)), book_of((B,))])
        self.assertIsNone(parting(one, Layers(S, 1, [book_of((A,), (B,))])))
        self.assertIsNone(parting(one=Layers(S, 1, []), two=Layers(S, 1, [])))
        self.assertIsNone(parting(one, ~~one))

    def test_the_first_row_of_the_first_book(self):
        one, two = Layers(S, 1, [book_of((A,), (("g", "X"),))]), Layers(S, 1, [book_of((B,), (("g", "X"),))])
        self.same((A,), parting(one, two))
        self.same((A,), parting(two, one))
        self.same((("g", "V1"),), parting(one, Layers(S, 1, [book_of((A,))])))
        self.same(("V1",), parting(one, ~one))
        self.same(("V1", "V2"), parting(Layers.of(~Saying(wished(("X", "Y")))), Layers(S, 2, [])))

    def test_against_the_operators(self):
        rng = random.Random(6)
        for _ in range(40):
            one, two = Layers(S, 2, random_books(rng, 2, 3)), Layers(S, 2, random_books(rng, 2, 3))
            row = parting(one, two)
            if one == two:
                self.assertIsNone(row)
            else:
                self.same((one ^ two).books[0].rows[0], row)
                self.assertIs(row in one, row not in two)
