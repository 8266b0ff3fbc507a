"""Point 40: what patterns cover."""

import random

from tests.helpers import SYMBOLS, Case, is_case_by_search, size
from tests.test_kinds import SIGNATURES, random_patterns, small_terms
from twowaysigns.covers import Coverage, coverage
from twowaysigns.signatures import Signature

S = Signature(SYMBOLS)
FEW = Signature([("a", 0, False), ("g", 1, False), ("f", 2, True)])
A = ("a",)
B = ("b",)


def of_small_size(term, largest):
    """Return the term if it is that small, otherwise None."""
    return term if term is not None and size(term) <= largest else None


class CoverageTest(Case):

    def check(self, expected, signature, patterns):
        for found in (coverage(signature, patterns), coverage(signature=signature, patterns=tuple(patterns))):
            self.assertIsInstance(found, Coverage)
            self.assertEqual(expected, (found.missed, found.doubled, found.reached))
            self.assertIs(tuple, found.reached.__class__)

    def test_the_example(self):
        patterns = [A, ("g", "X"), ("f", A, "X"), ("f", ("g", "X"), "Y")]
        found = coverage(FEW, patterns)
        self.same(("f", ("f", A, A), ("f", A, A)), found.missed)
        self.same(("f", A, ("g", A)), found.doubled)
        self.same((A, ("g", A), ("f", A, A), ("f", ("g", A), ("g", A))), found.reached)

    def test_no_pattern_at_all(self):
        self.check((A, None, ()), S, [])
        self.check((A, None, ()), FEW, [])

    def test_a_signature_without_a_constant(self):
        signature = Signature([("f", 2, True), ("g", 1, False)])
        self.check((None, None, ()), signature, [])
        self.check((None, None, (None, None, None)), signature, ["X", ("g", "X"), ("f", "X", "Y")])

    def test_equal_patterns(self):
        self.check((None, A, (A, None)), S, ["X", "X"])
        self.check((None, A, (A, None, None)), S, ["X", "Y", "X"])
        self.check((A, ("g", A), (("g", A), None)), S, [("g", "X"), ("g", "Y")])
        self.check((A, ("f", A, B), (("f", A, B), None)), S, [("f", A, B), ("f", B, A)])

    def test_patterns_that_nothing_new_reaches(self):
        self.check((B, A, (A, None)), S, [A, A])
        self.check((A, ("g", A), (("g", A), None)), S, [("g", "X"), ("g", A)])
        self.check((None, A, (A, ("g", A), None)), Signature([("a", 0, False), ("g", 1, False)]), [A, ("g", "X"), "X"])

    def test_patterns_that_cover_everything_just_once(self):
        self.check((None, None, (A,)), S, ["X"])
        self.check((None, None, (A, ("g", A), ("f", A, A))), FEW, [A, ("g", "X"), ("f", "X", "Y")])
        self.check((None, None, (A, ("g", A), ("g", ("g", A)), ("f", A, A), ("g", ("f", A, A)))), FEW,
                   [A, ("g", A), ("g", ("g", "X")), ("f", "X", "Y"), ("g", ("f", "X", "Y"))])

    def test_a_variable_behind_other_patterns(self):
        self.check((None, ("g", A), (("g", A), A)), FEW, [("g", "X"), "Y"])
        self.check((None, A, (A, ("g", A))), FEW, [A, "Y"])

    def test_against_a_search(self):
        rng = random.Random(1)
        for _ in range(80):
            symbols = rng.choice(SIGNATURES)
            patterns = random_patterns(rng, symbols, rng.choice([3, 7]))
            terms, largest = small_terms(symbols)
            met = [[k for k, pattern in enumerate(patterns) if is_case_by_search((term,), (pattern,), symbols)]
                   for term in terms]
            found = coverage(Signature(symbols), patterns)
            missed = next((term for term, indexes in zip(terms, met) if not indexes), None)
            doubled = next((term for term, indexes in zip(terms, met) if len(indexes) > 1), None)
            reached = [next((term for term, indexes in zip(terms, met) if indexes[:1] == [k]), None)
                       for k in range(len(patterns))]
            self.assertEqual(missed, of_small_size(found.missed, largest))
            self.assertEqual(doubled, of_small_size(found.doubled, largest))
            self.assertEqual(reached, [of_small_size(term, largest) for term in found.reached])
