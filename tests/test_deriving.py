"""Point 55: derivations that terms are alike, and that a term equals its end."""

import random

from tests.helpers import SYMBOLS, Case, alike_by_words, balanced, comb, exchanged, meeting_places, random_term, tower
from tests.searches import conclusions_by_words, end_by_search
from tests.test_orders import ORDERS, turned_at_random
from tests.test_rules import random_pairs
from twowaysigns.deriving import derive_alike, derive_end
from twowaysigns.kernel import conclusions
from twowaysigns.orders import Order
from twowaysigns.rules import Rules
from twowaysigns.signatures import Signature

S = Signature(SYMBOLS)
A = ("a",)
B = ("b",)
ONES = Order(S, [1, 1, 1, 1, 1])
UNIT = (("f", "X", A), "X")


class DeriveCase(Case):
    """What every derivation must have."""

    def concludes(self, expected, axioms, lines):
        """Check that the derivation is accepted and that its last line concludes the pair."""
        self.assertIs(tuple, lines.__class__)
        self.only_tuples(lines)
        found = conclusions_by_words(axioms, lines)
        self.assertNotIn(None, found)
        self.assertEqual(expected, found[-1])
        self.same(found, conclusions(S, axioms, lines))


class AlikeTest(DeriveCase):

    def alike(self, one, two):
        self.concludes((one, two), (), derive_alike(S, one, two))
        self.concludes((two, one), [UNIT], derive_alike(signature=S, one=two, two=one))

    def test_alike_terms(self):
        for one, two in [("X", "X"), (A, A), (("f", A, B), ("f", B, A)), (("f", A, A), ("f", A, A)),
                         (("g", ("f", "X", "Y")), ("g", ("f", "Y", "X"))),
                         (("p", ("f", "X", A), ("f", B, A)), ("p", ("f", A, "X"), ("f", B, A))),
                         (("f", ("f", "X", "Y"), ("f", "Y", "X")), ("f", ("f", "X", "Y"), ("f", "Y", "X"))),
                         (("f", ("f", "X", "Y"), ("f", "Y", "X")), ("f", ("f", "Y", "X"), ("f", "X", "Y")))]:
            self.alike(one, two)

    def test_terms_that_are_not_alike(self):
        for one, two in [("X", "Y"), ("X", A), (A, B), (("p", A, B), ("p", B, A)), (("g", A), A),
                         (("f", ("f", "X", "Y"), "Z"), ("f", "X", ("f", "Y", "Z"))), (("f", A, A), ("p", A, A))]:
            self.assertIsNone(derive_alike(S, one, two))
            self.assertIsNone(derive_alike(S, two, one))

    def test_random_terms(self):
        rng = random.Random(5501)
        counts = [0, 0]
        for _ in range(400):
            one = random_term(rng, rng.randint(1, 14))
            two = turned_at_random(rng, one) if rng.random() < 0.8 else random_term(rng, rng.randint(1, 3))
            is_alike = alike_by_words(one, two)
            counts[is_alike] += 1
            if is_alike:
                self.alike(one, two)
            else:
                self.assertIsNone(derive_alike(S, one, two))
        self.assertGreater(min(counts), 40)

    def test_large_terms(self):
        for term in (comb("f", ["X", "Y", A] * 10), balanced("f", ["X", A, "Y"] * 10), tower(58, ("f", A, "X"))):
            self.alike(term, exchanged(term, meeting_places(term)))
            self.alike(term, exchanged(term, meeting_places(term)[::2]))


class EndTest(DeriveCase):

    def ends(self, rules, term):
        expected = (term, end_by_search(rules.pairs, term))
        self.concludes(expected, rules.pairs, derive_end(rules, term))
        self.assertEqual(derive_end(rules, term), derive_end(rules=rules, term=term))

    def test_terms_without_steps(self):
        for rules in (Rules(ONES, []), Rules(ONES, [UNIT])):
            for term in ("X", A, ("f", "X", B), ("f", B, "X"), ("p", ("f", B, ("g", "X")), B), tower(19)):
                self.ends(rules, term)

    def test_terms_with_steps(self):
        rules = Rules(ONES, [UNIT, (("f", ("g", "X"), ("g", "X")), "X"), (("p", "X", "Y"), ("f", "Y", "X"))])
        for term in [("f", A, B), ("f", B, A), ("f", A, ("f", B, A)), ("g", ("f", A, ("f", A, "X"))),
                     ("p", ("g", ("f", A, "X")), ("g", "X")), ("f", ("g", ("f", "X", "Y")), ("g", ("f", "Y", "X"))),
                     comb("p", ["X", "Y", A, ("g", A), ("g", A)]), comb("f", [B, A] * 5)]:
            self.ends(rules, term)

    def test_random_terms(self):
        rng = random.Random(5502)
        moved = 0
        for _ in range(300):
            order = rng.choice(ORDERS)
            rules = Rules(order, random_pairs(rng, order, 4, rng.randint(3, 6)))
            term = random_term(rng, rng.randint(1, 12))
            self.ends(rules, term)
            moved += len(derive_end(rules, term)) > len(rules.pairs) + 5
        self.assertGreater(moved, 50)
