"""Point 33: the least closed row that meets a saying."""

import random

from tests.helpers import SYMBOLS, Case, balanced, comb, least_by_search, occurrences, random_term, size, tower
from tests.test_sayings import random_saying
from twowaysigns.closedrows import closed_row
from twowaysigns.closedterms import closed_terms
from twowaysigns.errors import FewClosedTerms, HasHelpers
from twowaysigns.layers import Layers
from twowaysigns.sayings import Saying
from twowaysigns.signatures import Signature
from twowaysigns.wishes import Wishes

S = Signature(SYMBOLS)
LINE = Signature([("a", 0, False), ("g", 1, False)])
MEETINGS = Signature([("f", 2, True), ("a", 0, False)])
NO_CONSTANT = Signature([("f", 2, True), ("g", 1, False)])
NO_ARGUMENTS = Signature([("a", 0, False), ("b", 0, False)])
A = ("a",)
B = ("b",)


def said(asked, *pairs, signature=S):
    """Return a saying of one list."""
    return Saying(Wishes(signature, asked, pairs))


def rows_of_size(signature, width, total):
    """Return all rows of closed terms with this sum of sizes."""
    if width == 0:
        return [()] if total == 0 else []
    return [(term, *row) for many in range(1, total - width + 2) for term in closed_terms(signature, many)
            for row in rows_of_size(signature, width - 1, total - many)]


class ClosedRowTest(Case):

    def check(self, saying, total=None):
        """Check the row by what it must be; the total is the sum of sizes that is known to be the least."""
        row = closed_row(saying)
        self.only_tuples(row)
        self.assertEqual(row, closed_row(saying=saying))
        self.assertIs(True, saying.is_met(row))
        self.assertEqual(len(saying.asked), len(row))
        for term in row:
            self.assertEqual([], occurrences(term))
            self.assertEqual(term, least_by_search(term, saying.signature.symbols) if size(term) < 20 else term)
        found = sum(size(term) for term in row)
        if total is None:
            for less in range(len(row), found):
                for other in rows_of_size(saying.signature, len(row), less):
                    self.assertIs(False, saying.is_met(other))
        else:
            self.assertEqual(total, found)
        return row

    def test_one_list(self):
        self.check(said(["X"]), 1)
        self.check(said(["X", "Y"], (("f", "X", B), ("f", A, "Y"))), 2)
        self.same((("f", A, ("g", B)), B), self.check(said(["X", "Y"], ("X", ("f", ("g", "Y"), A)), ("Y", B))))
        self.check(said(["X", "Y", "Z"], ("X", ("p", "Y", ("f", "Z", "Y")))), 7)

    def test_unlikenesses(self):
        asked = ["X", "Y"]
        self.check(said(asked) & ~said(asked, ("X", "Y")), 2)
        self.check(said(asked, ("X", ("g", "Y"))) & ~said(asked, ("Y", A)) & ~said(asked, ("Y", B)), 5)
        self.check(~said(asked, ("X", A)) & ~said(asked, ("X", B)) & ~said(asked, ("Y", ("g", "X"))), 3)
        self.check(~said(asked, (("f", "X", A), ("f", "Y", B))) & ~said(asked, ("X", "Y")), 2)

    def test_many_small_terms_barred(self):
        saying = said(["X"], signature=LINE)
        for depth in range(4):
            saying = saying & ~said(["X"], ("X", tower(depth, A)), signature=LINE)
        self.same((tower(4, A),), self.check(saying))
        terms = [A, ("f", A, A), ("f", A, ("f", A, A)), ("f", ("f", A, A), ("f", A, A))]
        saying = said(["X", "Y"], ("X", ("f", "Y", "Y")), signature=MEETINGS)
        for term in terms:
            saying = saying & ~said(["X", "Y"], ("Y", term), signature=MEETINGS)
        self.check(saying, 7 + 15)

    def test_the_least_row_in_a_later_book(self):
        asked = ["X", "Y"]
        one, two = [said(asked, (name, A), signature=LINE) for name in asked]
        saying = ~two | one & two
        self.assertEqual(3, len(Layers.of(saying).books))
        self.same((A, A), self.check(saying, 2))
        self.check(saying & ~(one & two), 3)
        self.same((A, A), self.check(said(asked, signature=LINE), 2))

    def test_unlike_variables(self):
        asked = ["X", "Y", "Z"]
        saying = said(asked, signature=LINE)
        for pair in [("X", "Y"), ("Y", "Z"), ("X", "Z")]:
            saying = saying & ~said(asked, pair, signature=LINE)
        self.check(saying, 6)
        saying = said(asked, ("X", ("f", "Y", "Z")), signature=MEETINGS) & ~said(asked, ("Y", "Z"), signature=MEETINGS)
        self.check(saying & ~said(asked, ("Z", A), signature=MEETINGS) & ~said(asked, ("Y", A), signature=MEETINGS))

    def test_against_a_search(self):
        rng = random.Random(1)
        met = 0
        for _ in range(150):
            asked = rng.choice([("X",), ("X", "Y"), ("X", "Y", "Z")])
            saying, _ = random_saying(rng, rng.randint(1, 5), asked, asked, 4)
            if Layers.of(saying).is_empty:
                self.assertIsNone(closed_row(saying))
            elif sum(size(term) for term in closed_row(saying)) <= len(asked) + 4:
                met += 1
                self.check(saying)
        self.assertLess(80, met)

    def test_rows_far_larger_than_the_wishes(self):
        asked = ["X", "Y", "Z", "W"]
        pairs = [("X", balanced("p", ["Y"] * 5)), ("Y", balanced("p", ["Z"] * 5)), ("Z", balanced("p", ["W"] * 5))]
        self.check(said(asked, *pairs), 249 + 49 + 9 + 1)
        saying = said(asked, *pairs) & ~said(asked, ("W", A)) & ~said(asked, ("W", B))
        self.same(("g", A), self.check(saying, 249 + 49 + 9 + 1 + 125 + 25 + 5 + 1)[3])
        saying = said(["X", "Y"], ("X", comb("f", ["Y"] * 12))) & ~said(["X", "Y"], ("Y", A)) & ~said(["X", "Y"], ("Y", B))
        self.check(saying & ~said(["X", "Y"], ("Y", ("g", A))), 11 + 12 * 2 + 2)

    def test_a_rare_variable_beside_a_frequent_one(self):
        asked = ["X", "Y", "Z"]
        saying = said(asked, ("X", comb("p", ["Y"] * 9))) & ~said(asked, ("Y", "Z"))
        self.check(saying & ~said(asked, ("Z", A)) & ~said(asked, ("Z", B)), 17 + 1 + 2)
        saying = said(asked, ("X", comb("p", ["Y"] * 9)), signature=Signature([("a", 0, False), ("p", 2, False)]))
        bar = said(asked, ("Y", A), signature=saying.signature)
        self.check(saying & ~bar & ~said(asked, ("Z", A), signature=saying.signature), 8 + 27 + 3 + 3)

    def test_or_and_not_of_and(self):
        asked = ["X", "Y"]
        one, two = said(asked, ("X", A)), said(asked, ("Y", ("g", "X")))
        for saying in [one | two, ~(one & two), ~one & two, ~(one | two), (one | two) & ~(one & two), ~one & ~two | one & two]:
            self.check(saying)

    def test_a_saying_that_no_row_meets(self):
        one = said(["X", "Y"], ("X", A))
        for saying in [said(["X"], (A, B)), said(["X"], ("X", ("g", "X"))), one & ~one, ~(one | ~one),
                       ~said(["X"]), one & ~said(["X", "Y"], (A, "X"))]:
            self.assertIsNone(closed_row(saying))

    def test_has_helpers(self):
        with_helper, without = said(["X"], ("X", ("g", "Z"))), said(["X"], ("X", A))
        for saying in [with_helper, ~with_helper, with_helper & without, without | with_helper, without & ~without & with_helper]:
            self.raises(HasHelpers, {}, closed_row, saying)
        for signature in (NO_CONSTANT, NO_ARGUMENTS, Signature([])):
            self.raises(HasHelpers, {}, closed_row, said(["X"], ("Z", "X"), signature=signature))
            self.raises(HasHelpers, {}, closed_row, said(["X"], ("Z", "Z"), signature=signature))

    def test_few_closed_terms(self):
        for signature in (NO_CONSTANT, NO_ARGUMENTS, Signature([]), Signature([("g", 1, False)]), Signature([("a", 0, False)])):
            for saying in [said(["X"], signature=signature), ~said(["X"], signature=signature),
                           said(["X", "Y"], ("X", "Y"), signature=signature)]:
                self.raises(FewClosedTerms, {}, closed_row, saying)

    def test_a_symbol_with_arguments_and_a_constant_are_enough(self):
        for symbols in ([("a", 0, False), ("g", 1, False)], [("f", 2, True), ("a", 0, False)],
                        [("p", 2, False), ("a", 0, False)]):
            signature = Signature(symbols)
            self.check(said(["X"], signature=signature) & ~said(["X"], ("X", A), signature=signature))


class RowsOfSizeTest(Case):

    def test_that_they_are_all(self):
        rng = random.Random(2)
        rows = rows_of_size(S, 2, 5)
        self.assertEqual(len(rows), len(set(rows)))
        for _ in range(50):
            row = tuple(least_by_search(random_term(rng, rng.randint(1, 4), ())) for _ in range(2))
            self.assertEqual(size(row[0]) + size(row[1]) == 5, row in rows)
