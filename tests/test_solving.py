"""Points 26 and 27: the widest rows, which rows meet wishes, and clashes."""

import itertools
import random

from tests.helpers import (SYMBOLS, Case, alike_by_words, all_terms, answers_by_words, balanced, comb,
                           is_case_by_search, least_form_by_search, meets_by_words, occurrences, put_in, random_term)
from twowaysigns.books import Book
from twowaysigns.signatures import Signature
from twowaysigns.solving import clashes, meets, widest
from twowaysigns.trees import answers_of, tree_of
from twowaysigns.wishes import Wishes

S = Signature(SYMBOLS)
A = ("a",)
B = ("b",)
FEW = [("f", 2, True), ("g", 1, False)]
ROWS = list(itertools.product(all_terms(3, ["X", "Z", A], FEW), repeat=2))


def random_wishes(rng, asked, names, largest=7, most=3, symbols=None):
    """Return random wishes."""
    symbols = symbols or rng.choice([SYMBOLS, FEW, [("f", 2, True), ("a", 0, False), ("b", 0, False)]])
    pairs = [tuple(random_term(rng, rng.randint(1, largest), names, symbols) for _ in range(2))
             for _ in range(rng.randint(0, most))]
    return Wishes(S, asked, pairs)


class WidestTest(Case):

    def test_the_example(self):
        wishes = Wishes(S, ["X", "Y"], [(("f", "X", ("g", "Y")), ("f", "Z", ("g", A)))])
        self.same((("V1", A), (("g", A), "V1")), widest(wishes).rows)
        self.assertEqual(widest(wishes), widest(wishes=wishes))

    def test_what_is_returned(self):
        book = widest(Wishes(S, ["X", "Y", "Z"], [("X", ("f", "Y", "Z"))]))
        self.assertIsInstance(book, Book)
        self.assertIs(S, book.signature)
        self.same(3, book.width)
        self.same(((("f", "V1", "V2"), "V1", "V2"),), book.rows)

    def test_against_trees(self):
        rng = random.Random(1)
        several = 0
        for _ in range(500):
            asked = rng.choice([["X"], ["X", "Y"], ["Y", "W", "X"], ["X", "Y", "Z", "U"]])
            wishes = random_wishes(rng, asked, ("X", "Y", "Z", "W"))
            book = widest(wishes)
            several += len(book) > 1
            self.assertEqual(Book(S, len(asked), answers_of(wishes, tree_of(wishes))), book)
            if len(book) < 8:
                self.assertEqual(least_form_by_search(answers_by_words(asked, wishes.pairs)), book.rows)
        self.assertLess(5, several)

    def test_a_row_meets_the_wishes_exactly_if_it_is_in_the_book(self):
        rng = random.Random(2)
        met = 0
        for _ in range(50):
            wishes = random_wishes(rng, ["X", "Y"], ("X", "Y"), 6, 2)
            book = widest(wishes)
            for row in ROWS:
                table = dict(zip(wishes.asked, row))
                expected = all(alike_by_words(put_in(one, table), put_in(two, table)) for one, two in wishes.pairs)
                met += expected
                self.assertIs(expected, row in book)
                self.assertIs(expected, meets(wishes, row))
                self.assertIs(expected, any(is_case_by_search(row, wide) for wide in book))
        self.assertLess(200, met)

    def test_helpers(self):
        rng = random.Random(3)
        met = 0
        for _ in range(40):
            wishes = random_wishes(rng, ["X", "Y"], ("X", "Y", "Z", "W", "R"), 7, 2)
            book = widest(wishes)
            for row in ROWS[::3]:
                expected = meets_by_words(wishes.asked, wishes.pairs, row)
                met += expected
                self.assertIs(expected, meets(wishes, row))
                self.assertIs(expected, row in book)
        self.assertLess(200, met)

    def test_wishes_without_pairs(self):
        for asked in (["X"], ["X", "Y"], ["X", "Z", "Y", "U"]):
            wishes = Wishes(S, asked, [])
            self.assertEqual(Book.everything(S, len(asked)), widest(wishes))
            self.assertIs(True, meets(wishes, [A] * len(asked)))

    def test_wishes_that_no_row_meets(self):
        for pairs in [[(A, B)], [("X", ("g", "X"))], [("Z", A), ("Z", B)], [(("f", "X", A), ("f", B, B))],
                      [(("f", "X", ("g", "Y")), ("f", "Y", ("g", "X"))), (("g", "X"), "Y")],
                      [("Z", ("f", "W", A)), ("W", ("f", B, "Z"))]]:
            wishes = Wishes(S, ["X", "Y"], pairs)
            self.assertEqual(Book.nothing(S, 2), widest(wishes))
            self.assertEqual([], [row for row in ROWS if meets(wishes, row)])

    def test_asked_variables_that_occur_in_no_pair(self):
        self.same((("V1", A, "V2"),), widest(Wishes(S, ["X", "Y", "N"], [("Y", A)])).rows)
        self.same((("V1", "V2"),), widest(Wishes(S, ["X", "N"], [("Y", "Z")])).rows)
        self.same((("V1", "V2", "V1"),), widest(Wishes(S, ["X", "N", "Y"], [("Y", "X")])).rows)

    def test_wishes_about_variables_alone(self):
        self.same((("V1", "V1"),), widest(Wishes(S, ["X", "Y"], [("X", "Z"), ("Y", "Z"), ("X", "X")])).rows)

    def test_enormous_answers(self):
        pairs = [(f"X{k}", balanced("p", [f"X{k + 1}"] * 5)) for k in range(4)]
        pairs += [("X4", balanced("p", ["X5"] * 4)), ("X5", balanced("p", ["Y", A, "Y"]))]
        wishes = Wishes(S, ["X0", "X4", "Y"], pairs)
        book = widest(wishes)
        self.assertEqual([5 ** 4 * 4 * 2, 8, 1], [len(occurrences(term)) for term in book.rows[0]])
        self.assertEqual(book, widest(wishes))
        self.assertIs(False, meets(wishes, (A, A, A)))

    def test_enormous_helpers(self):
        links = [("f", f"X{k + 1}", f"X{k + 1}") for k in range(6)], [("f", f"Y{k + 1}", f"Y{k + 1}") for k in range(6)]
        pairs = [(comb("p", [f"{name}{k}" for k in range(6)]), comb("p", sides)) for name, sides in zip("XY", links)]
        self.same((("V1", "V1"),), widest(Wishes(S, ["X6", "Y6"], pairs + [("X0", "Y0")])).rows)
        wishes = Wishes(S, ["X6", "Y6"], pairs + [("X0", "Y1")])
        self.same((("V1", ("f", "V1", "V1")),), widest(wishes).rows)

    def test_many_ways_to_one_row(self):
        wishes = Wishes(S, ["X"], [(comb("p", ["X"] * 12), comb("p", [("f", f"A{k}", f"B{k}") for k in range(12)]))])
        self.same(((("f", "V1", "V2"),),), widest(wishes).rows)


class MeetsTest(Case):

    def test_rows_of_another_width(self):
        for pairs in ([], [("X", "X")], [(A, B)]):
            for row in [(), ("X",), ("X", "Y", "Z"), [A, A, A, A]]:
                self.assertIs(False, meets(Wishes(S, ["X", "Y"], pairs), row))

    def test_variables_of_the_row_are_not_replaced(self):
        wishes = Wishes(S, ["X", "Y"], [("X", ("g", "Z")), ("Y", ("f", "Z", A))])
        self.assertIs(True, meets(wishes, [("g", "X"), ("f", A, "X")]))
        self.assertIs(True, meets(wishes, (("g", "Z"), ("f", "Z", A))))
        self.assertIs(True, meets(wishes, (("g", ("g", "Z")), ("f", ("g", "Z"), A))))
        self.assertIs(False, meets(wishes, (("g", "Z"), ("f", "X", A))))
        self.assertIs(False, meets(wishes, ("X", "Y")))
        self.assertIs(False, meets(wishes, ("Z", "Z")))
        self.assertIs(False, meets(wishes, (("g", "X"), "Y")))

    def test_asked_variables_exchanged(self):
        wishes = Wishes(S, ["X", "Y"], [("X", "Y")])
        self.assertIs(False, meets(wishes, ("Y", "X")))
        self.assertIs(True, meets(wishes, ("Y", "Y")))
        wishes = Wishes(S, ["X", "Y"], [(("p", "X", "Y"), ("p", ("g", "Y"), "Z"))])
        self.assertIs(True, meets(wishes=wishes, row=(("g", "X"), "X")))
        self.assertIs(False, meets(wishes=wishes, row=(("g", "Y"), "X")))

    def test_turned_rows(self):
        wishes = Wishes(S, ["X"], [("X", ("f", ("f", "Z", A), ("g", "Z")))])
        for term, expected in [(("f", ("g", B), ("f", A, B)), True), (("f", ("f", A, A), ("g", A)), True),
                               (("f", ("f", A, B), ("g", A)), False), (("f", ("f", "Z", A), ("g", "Y")), False)]:
            self.assertIs(expected, meets(wishes, (term,)))


class ClashesTest(Case):

    def by_search(self, wishes):
        """Return all clashes, by looking at every set of pairs."""
        found = []
        for many in range(len(wishes.pairs) + 1):
            for indexes in itertools.combinations(range(len(wishes.pairs)), many):
                pairs = [wishes.pairs[index] for index in indexes]
                if not answers_by_words(wishes.asked, pairs) and not any(set(less) <= set(indexes) for less in found):
                    found.append(indexes)
        return tuple(found)

    def check(self, expected, pairs, asked=("X", "Y")):
        wishes = Wishes(S, list(asked), pairs)
        self.same(expected, clashes(wishes))
        self.same(expected, clashes(wishes=wishes))
        self.assertEqual(expected, self.by_search(wishes))

    def test_wishes_that_some_row_meets(self):
        self.check((), [])
        self.check((), [("X", A), ("Y", B), ("X", A), ("Z", "Y")])

    def test_single_pairs(self):
        self.check(((0,),), [(A, B)])
        self.check(((1,), (3,)), [("X", "Y"), (A, B), ("X", A), ("Z", ("g", "Z"))])
        self.check(((0,), (1,)), [(A, B), (A, B)])

    def test_equal_pairs(self):
        self.check(((0, 2), (1, 2)), [("X", A), ("X", A), ("X", B)])
        self.check(((0, 1), (0, 3), (1, 2), (2, 3)), [("X", A), ("X", B), ("X", A), ("X", B)])

    def test_several_indexes(self):
        self.check(((0, 1, 2),), [("X", "Y"), ("X", A), ("Y", B)])
        self.check(((0, 1, 2, 3, 4),), [("X", "Y"), ("Y", "Z"), ("Z", "W"), ("X", A), ("W", B)])
        self.check(((0, 1), (2, 3, 4)), [("X", A), ("X", B), ("Y", "Z"), ("Z", ("g", "W")), ("Y", "W")])
        self.check(((1, 3), (0, 1, 2), (0, 2, 3)), [("X", "Z"), ("Z", A), ("X", B), ("Z", ("g", "W")), ("Y", "Y")])

    def test_turnings(self):
        self.check(((0, 1, 2),), [(("f", "X", "Y"), ("f", A, B)), ("X", "Z"), ("Y", "Z")])
        self.check(((0, 1), (0, 2)), [(("f", "X", "Y"), ("f", A, B)), (("g", "Z"), "X"), ("Y", ("g", A)), ("X", "W")])

    def test_against_a_search(self):
        rng = random.Random(4)
        several = 0
        for _ in range(150):
            wishes = random_wishes(rng, ["X"], ("X", "Y", "Z"), 4, 5)
            found = clashes(wishes)
            several += len(found) > 1
            self.same(self.by_search(wishes), found)
            self.assertEqual(found == (), not widest(wishes).is_empty)
        self.assertLess(10, several)
