"""Point 13: all turnings and own turnings."""

import inspect

from tests.helpers import (SYMBOLS, TWO_SIGNS, Case, all_terms, balanced, comb, exchanged, meeting_places,
                           random_terms, sorted_terms, subsets, turnings_by_search)
from twowaysigns.sides import even_places
from twowaysigns.signatures import Signature
from twowaysigns.turnings import count_turnings, own_turnings, turnings_of

S = Signature(SYMBOLS)
T = Signature(TWO_SIGNS)
A = ("a",)
B = ("b",)
SMALL = all_terms(5, ["X", "Y", A], [("a", 0, False), ("f", 2, True), ("g", 1, False), ("p", 2, False)])
LARGER = [term for term in random_terms(1, 200, 22, ("X", "Y")) if len(meeting_places(term)) <= 6]
WIDE = [comb("f", ["X"] * 9), balanced("f", ["X"] * 9), balanced("f", ["X", "Y", "Z", A, B, ("g", "X"), "X", "Y", "Z"]),
        balanced("f", ["X", "Y"] * 4), ("p", comb("f", ["X", "Y", "X", "Y", A]), comb("f", ["X", "Y", "X", "Y", A]))]


def own_by_search(term, symbols=SYMBOLS):
    """Return all own turnings, sorted as the document says."""
    found = [places for places in subsets(meeting_places(term, symbols)) if exchanged(term, places) == term]
    return tuple(sorted(found, key=lambda places: (len(places), places)))


class CountTest(Case):

    def test_small(self):
        self.assertEqual(1, count_turnings(S, "X"))
        self.assertEqual(1, count_turnings(S, ("p", "X", "Y")))
        self.assertEqual(2, count_turnings(S, ("f", "X", "Y")))
        self.assertEqual(1, count_turnings(S, ("f", "X", "X")))
        for term in SMALL + LARGER:
            self.assertEqual(len(turnings_by_search(term)), count_turnings(signature=S, term=term))

    def test_more_places_than_eight(self):
        different = ["X", "Y", "Z", A, B] + [f"X{k}" for k in range(25)]
        self.assertEqual(2 ** 29, count_turnings(S, comb("f", different)))
        self.assertEqual(2 ** 29, count_turnings(S, balanced("f", different)))
        self.assertEqual(2 ** 28, count_turnings(S, comb("f", ["X"] * 30)))
        self.assertEqual(1, count_turnings(S, balanced("f", ["X"] * 16)))


class TurningsTest(Case):

    def test_it_is_a_generator(self):
        self.assertTrue(inspect.isgeneratorfunction(turnings_of))
        found = turnings_of(S, ("f", "Y", "X"))
        self.same(("f", "X", "Y"), next(found))
        self.same(("f", "Y", "X"), next(found))
        self.assertEqual("end", next(found, "end"))

    def test_each_once_and_in_order(self):
        for term in SMALL + LARGER:
            self.same(tuple(sorted_terms(turnings_by_search(term))), tuple(turnings_of(S, term)))

    def test_two_two_way_symbols(self):
        for term in random_terms(2, 100, 13, ("X", "Y"), TWO_SIGNS):
            expected = sorted_terms(turnings_by_search(term, TWO_SIGNS), TWO_SIGNS)
            self.same(tuple(expected), tuple(turnings_of(signature=T, term=term)))

    def test_eight_places(self):
        for term in WIDE:
            self.assertIn(len(meeting_places(term)), (7, 8))
            self.same(tuple(sorted_terms(turnings_by_search(term))), tuple(turnings_of(S, term)))

    def test_without_two_way_places(self):
        for term in ["X", A, ("p", ("g", "X"), B)]:
            self.assertEqual([term], list(turnings_of(S, term)))


class OwnTurningsTest(Case):

    def test_the_example(self):
        self.same(((), ((), (0,), (1,))), own_turnings(S, ("f", ("f", "X", "Y"), ("f", "Y", "X"))))

    def test_small_and_larger_terms(self):
        for term in SMALL + LARGER:
            self.same(own_by_search(term), own_turnings(S, term))

    def test_two_two_way_symbols(self):
        for term in random_terms(3, 100, 13, ("X",), TWO_SIGNS):
            self.same(own_by_search(term, TWO_SIGNS), own_turnings(signature=T, term=term))

    def test_eight_places(self):
        for term in WIDE:
            self.same(own_by_search(term), own_turnings(S, term))
            self.assertEqual(2 ** len(even_places(S, term)), len(own_turnings(S, term)))
        even = balanced("p", [("f", "X", "X")] * 8)
        self.assertEqual(256, len(own_turnings(S, even)))
        self.same(own_by_search(even), own_turnings(S, even))

    def test_without_two_way_places(self):
        for term in ["X", A, ("p", ("g", "X"), ("g", "X"))]:
            self.same(((),), own_turnings(S, term))
