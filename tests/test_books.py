"""Points 24 and 25: books and their operators."""

import itertools
import random

from tests.helpers import (SYMBOLS, Case, all_terms, balanced, comb, exchanged, is_case_by_search,
                           least_form_by_search, meeting_places, occurrences, put_in, random_term, tower)
from twowaysigns.books import Book
from twowaysigns.errors import BadWidth, BooksDiffer
from twowaysigns.signatures import Signature

S = Signature(SYMBOLS)
OTHER = Signature([("a", 0, False)])
A = ("a",)
B = ("b",)
FEW = [("f", 2, True), ("g", 1, False)]
SMALL = all_terms(3, ["R", A, B], SYMBOLS)
PAIRS = list(itertools.product(all_terms(3, ["R", A], FEW), repeat=2))


def random_rows(rng, width, most, largest=6):
    """Return random rows."""
    symbols = rng.choice([SYMBOLS, FEW, [("f", 2, True), ("a", 0, False)]])
    return [tuple(random_term(rng, rng.randint(1, largest), ("X", "Y", "Z"), symbols) for _ in range(width))
            for _ in range(rng.randint(0, most))]


def as_wide(rng, row):
    """Return another row that is as wide, with sides exchanged and variables renamed."""
    names = sorted({name for term in row for name in occurrences(term)})
    table = dict(zip(names, rng.sample(["X", "Y", "Z", "V1", "V2", "N"], len(names))))
    turned = [exchanged(term, rng.sample(meeting_places(term), rng.randint(0, len(meeting_places(term)))))
              for term in row]
    return tuple(put_in(term, table) for term in turned)


class RowsTest(Case):
    """Point 24."""

    def test_fields(self):
        book = Book(S, 2, [("X", A)])
        self.assertIs(S, book.signature)
        self.same(2, book.width)
        self.same((("V1", A),), book.rows)
        self.assertEqual(book, Book(signature=S, width=2, rows=(["Y", A],)))

    def test_least_tellings_in_order_none_a_case_of_another(self):
        rows = [("X", A), (("f", B, "Y"), "Z"), (B, A), (("f", "Z", A), "X"), (("f", A, B), B)]
        expected = (("V1", A), (("f", "V1", A), "V2"), (("f", "V1", B), "V2"))
        for order in itertools.permutations(rows):
            self.same(expected, Book(S, 2, order).rows)
        self.same(((("f", "V1", ("g", "V2")),),), Book(S, 1, [[("f", ("g", "X"), "X")], [("f", ("g", "Y"), "X")]]).rows)

    def test_rows_that_are_as_wide_remain_once(self):
        rng = random.Random(2)
        for row in [("X",), (("f", ("f", "X", "Y"), ("f", "X", A)),), (("f", "X", B), "X"), ("X", "X", ("f", "X", "Y"))]:
            copies = [as_wide(rng, row) for _ in range(8)]
            self.assertEqual(1, len(Book(S, len(row), copies)))
            self.assertEqual(Book(S, len(row), [row]).rows, Book(S, len(row), copies).rows)

    def test_against_a_search(self):
        rng = random.Random(1)
        for _ in range(150):
            width = rng.randint(1, 3)
            rows = random_rows(rng, width, 6)
            expected = least_form_by_search(rows)
            self.same(expected, Book(S, width, rows).rows)
            shuffled = [list(as_wide(rng, row)) for row in rng.sample(rows, len(rows))]
            self.same(expected, Book(S, width, tuple(shuffled)).rows)

    def test_no_row_and_forty_rows(self):
        self.same((), Book(S, 3, []).rows)
        rng = random.Random(3)
        terms = [balanced("f", [("p", A, B) if k >> place & 1 else ("p", B, "X") for place in range(3)]) for k in range(8)]
        rows = [(one, two) for one in terms for two in (A, B, ("g", A), ("g", B), ("p", A, A))]
        self.assertEqual(40, len(rows))
        book = Book(S, 2, rng.sample(rows, 40))
        self.same(least_form_by_search(rows), book.rows)
        self.assertEqual(book, Book(S, 2, book.rows))
        self.same((("V1", "V2"),), Book(S, 2, rows[:39] + [("X", "Y")]).rows)

    def test_forty_rows_with_many_two_way_places(self):
        rng = random.Random(4)
        leaves = ["X", "Y", "Z", A, B]
        rows = [(balanced("f", [rng.choice(leaves) for _ in range(7)]), comb("f", [rng.choice(leaves) for _ in range(7)]))
                for _ in range(40)]
        book = Book(S, 2, rows)
        for row in rows:
            self.assertIn(as_wide(rng, row), book)
        for row in book:
            self.assertNotIn(row, Book(S, 2, [other for other in book if other != row]))

    def test_bad_width(self):
        for bad in [(), ("X",), ("X", "Y", "Z"), ["X", "Y", "Z", A]]:
            for index in range(4):
                rows = [("X", A)] * 3
                rows.insert(index, bad)
                self.raises(BadWidth, {"index": index}, Book, S, 2, rows)
                self.raises(BadWidth, {"index": index}, Book, S, 2, rows + [bad, ("X",)])
        self.raises(BadWidth, {"index": 0}, Book, S, 4, [("X", "Y", "Z")])

    def test_is_empty(self):
        self.assertIs(True, Book(S, 1, ()).is_empty)
        self.assertIs(False, Book(S, 1, [("X",)]).is_empty)

    def test_what_is_passed_is_not_kept(self):
        rows = [["X", A], ["X", "X"]]
        book = Book(S, 2, rows)
        self.assertEqual([["X", A], ["X", "X"]], rows)
        rows[0][0] = B
        rows.append(["X", "Y"])
        self.same((("V1", "V1"), ("V1", A)), book.rows)

    def test_enormous_rows(self):
        row = (balanced("p", ["X"] * 4000), balanced("p", ["Y"] * 3000 + ["X"]))
        book = Book(S, 2, [row, (row[0], row[0])])
        self.assertEqual(2, len(book))
        self.assertEqual(4000, len(occurrences(book.rows[0][0])))
        self.assertEqual(book, Book(S, 2, list(book)) & Book.everything(S, 2))


class OperatorsTest(Case):
    """Point 25."""

    def test_in(self):
        book = Book(S, 2, [(("f", "X", A), "X"), ("X", ("g", "X"))])
        for row in [(("f", B, A), B), (("f", A, B), B), (("f", A, "N"), "N"), ("X", ("g", "X")), (A, ("g", A)),
                    (("f", ("f", "X", B), A), ("f", B, "X")), (("f", "X", A), ("g", ("f", A, "X")))]:
            self.assertIs(True, row in book)
            self.assertIs(False, row not in book)
        for row in [(("f", B, A), A), ("X", "Y"), (A, A), ("X", ("g", "Y")), (("f", "X", "X"), "X"), (("p", B, A), B)]:
            self.assertIs(False, row in book)

    def test_in_a_row_of_another_width(self):
        for row in [(), ("X",), ("X", "Y", "Z"), (A, A, A, A)]:
            self.assertIs(False, row in Book.everything(S, 2))
            self.assertIs(False, row in Book.nothing(S, 2))

    def test_in_against_a_search(self):
        rng = random.Random(5)
        for _ in range(30):
            rows = random_rows(rng, 1, 4)
            book = Book(S, 1, rows)
            for term in SMALL:
                self.assertIs(any(is_case_by_search((term,), row) for row in rows), (term,) in book)

    def test_or_and_and_against_a_search(self):
        rng = random.Random(6)
        found = 0
        for _ in range(60):
            width = rng.randint(1, 2)
            first, second = random_rows(rng, width, 3), random_rows(rng, width, 3)
            one, two = Book(S, width, first), Book(S, width, second)
            some, both = one | two, one & two
            self.same(least_form_by_search(first + second), some.rows)
            self.same(least_form_by_search(both.rows), both.rows)
            for book in (some, both):
                self.assertIs(S, book.signature)
                self.assertEqual(width, book.width)
            for row in [(term,) for term in SMALL] if width == 1 else PAIRS:
                inside = [any(is_case_by_search(row, wide) for wide in rows) for rows in (first, second)]
                found += all(inside)
                self.assertIs(any(inside), row in some)
                self.assertIs(all(inside), row in both)
        self.assertLess(100, found)

    def test_and_of_rows_with_the_same_variables(self):
        one, two = Book(S, 2, [("X", ("g", "Y"))]), Book(S, 2, [(("g", "Y"), "X")])
        self.same(((("g", "V1"), ("g", "V2")),), (one & two).rows)
        one, two = Book(S, 1, [(("p", "X", ("g", "X")),)]), Book(S, 1, [(("p", ("g", "X"), "Y"),)])
        self.same(((("p", ("g", "V1"), ("g", ("g", "V1"))),),), (one & two).rows)
        one, two = Book(S, 1, [(("p", "X", ("g", "X")),)]), Book(S, 1, [(("p", "X", "X"),)])
        self.same((), (one & two).rows)

    def test_and_with_several_rows_for_two_rows(self):
        one, two = Book(S, 2, [(("f", "X", "Y"), "X")]), Book(S, 2, [(("f", A, B), "Z")])
        self.same(((("f", A, B), A), (("f", A, B), B)), (one & two).rows)
        one = Book(S, 3, [(("f", "X", "Y"), "X", "Y")])
        two = Book(S, 3, [(("f", "X", ("g", "Y")), "Z", "W")])
        self.same(((("f", "V1", ("g", "V2")), "V1", ("g", "V2")), (("f", "V1", ("g", "V2")), ("g", "V2"), "V1")),
                  (one & two).rows)
        one = Book(S, 4, [(("f", ("f", "X", "Y"), ("f", "Z", "W")), "X", "Y", "Z")])
        two = Book(S, 4, [(("f", ("f", A, B), ("f", ("g", A), ("g", B))), "X", "Y", "Z")])
        self.assertEqual(8, len(one & two))

    def test_and_that_becomes_enormous_before_it_clashes(self):
        names = [f"X{k}" for k in range(14)]
        one = Book(S, 3, [(comb("p", names), comb("p", names[1:] + ["X"]), "X13")])
        doubled = [("p", f"Y{k}", f"Y{k}") for k in range(14)]
        two = Book(S, 3, [(comb("p", doubled), comb("p", [f"Y{k}" for k in range(13)] + ["Z"]), ("g", "Z"))])
        self.same((), (one & two).rows)

    def test_and_that_becomes_deep(self):
        one = Book(S, 4, [(tower(59, "X"), "X", tower(59, "U"), "U")])
        two = Book(S, 4, [("Z", tower(59, "W"), "W", tower(59, "T"))])
        self.same(((tower(236, "V1"), tower(177, "V1"), tower(118, "V1"), tower(59, "V1")),), (one & two).rows)

    def test_laws(self):
        rng = random.Random(7)
        for _ in range(40):
            one, two, three = [Book(S, 2, random_rows(rng, 2, 3, 5)) for _ in range(3)]
            self.assertEqual(one & two, two & one)
            self.assertEqual(one | two, two | one)
            self.assertEqual(one & (two | three), one & two | one & three)
            self.assertEqual((one & two) & three, one & (two & three))
            self.assertEqual(one, one & (one | two))
            self.assertEqual(one, one | one & two)
            self.assertEqual(one.within(two), one & two == one)
            self.assertEqual(one.within(two), one | two == two)

    def test_operators_change_nothing(self):
        one, two = Book(S, 1, [("X",)]), Book(S, 1, [(A,), (("g", "X"),)])
        rows = two.rows
        results = [one | two, one & two, one == two, one.within(two), (A,) in two]
        self.assertEqual(results, [one | two, one & two, one == two, one.within(two), (A,) in two])
        self.assertEqual([(("V1",),), rows], [one.rows, two.rows])

    def test_equal(self):
        book = Book(S, 2, [("X", A), (B, "X")])
        for other in [Book(S, 2, [(B, "Y"), ("Z", A), (B, A)]), Book(Signature(SYMBOLS), 2, [("X", A), (B, "X")])]:
            self.assertIs(True, book == other)
            self.assertIs(False, book != other)
        unlike = Signature(SYMBOLS[:-1])
        for other in [Book(S, 2, [("X", A)]), Book(S, 2, []), Book(unlike, 2, [("X", A), (B, "X")]), book.rows, None, 0,
                      "book", S, (), [book]]:
            self.assertIs(False, book == other)
            self.assertIs(True, book != other)
        self.assertIs(False, Book.nothing(S, 1) == Book.nothing(S, 2))
        self.assertIs(False, Book.nothing(S, 1) == Book.nothing(OTHER, 1))
        self.assertIs(True, Book.nothing(S, 1) == Book(S, 1, []))

    def test_len_and_loop(self):
        for rows in [[], [(A,)], [("X",)], [(B,), (A,), (("g", "X"),)]]:
            book = Book(S, 1, rows)
            self.assertEqual(len(rows), len(book))
            self.assertEqual(book.rows, tuple(book))
            self.assertEqual(list(book.rows), [row for row in book])

    def test_within(self):
        wide, narrow = Book(S, 2, [("X", "Y")]), Book(S, 2, [("X", A), (A, "X")])
        for one, two, expected in [(narrow, wide, True), (wide, narrow, False), (wide, wide, True),
                                   (Book.nothing(S, 2), narrow, True), (narrow, Book.nothing(S, 2), False),
                                   (Book(S, 2, [(A, B), (B, A)]), narrow, True), (Book.nothing(S, 2), Book(S, 2, []), True),
                                   (Book(S, 2, [(A, B), (B, B)]), narrow, False)]:
            self.assertIs(expected, one.within(two))
            self.assertIs(expected, one.within(other=two))

    def test_nothing_and_everything(self):
        for width in (1, 2, 3, 4):
            nothing, everything = Book.nothing(S, width), Book.everything(signature=S, width=width)
            self.same((), nothing.rows)
            self.same((tuple(f"V{k + 1}" for k in range(width)),), everything.rows)
            self.assertEqual([width, width], [nothing.width, everything.width])
            self.assertIs(S, everything.signature)
            self.assertIs(True, nothing.is_empty)
            self.assertIs(False, everything.is_empty)
            self.assertIn((A,) * width, everything)
            self.assertEqual(nothing, Book.nothing(signature=S, width=width))
            self.assertEqual([nothing, everything], [nothing & everything, nothing | everything])

    def test_books_differ(self):
        alike = Signature(SYMBOLS)
        one = Book(S, 1, [(A,)])
        self.assertEqual(one, one | Book(alike, 1, []))
        self.assertEqual(one, one & Book.everything(alike, 1))
        self.assertIs(True, one.within(Book.everything(alike, 1)))
        for first in (one, Book.nothing(S, 1)):
            for second in (Book(S, 2, [(A, A)]), Book.nothing(S, 2), Book(OTHER, 1, [(A,)]), Book.nothing(OTHER, 1)):
                for left, right in [(first, second), (second, first)]:
                    self.raises(BooksDiffer, {}, lambda: left | right)
                    self.raises(BooksDiffer, {}, lambda: left & right)
                    self.raises(BooksDiffer, {}, left.within, right)
