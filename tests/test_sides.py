"""Points 10, 11 and 12: turned terms, least writings and even places."""

import itertools
import random

from tests.helpers import (SYMBOLS, TWO_SIGNS, Case, alike_by_words, all_terms, at, balanced, comb, exchanged,
                           least_by_search, meeting_places, random_terms, size, subsets, turnings_by_search)
from twowaysigns.errors import BadPlace
from twowaysigns.sides import are_alike, even_places, least_writing, turned, two_way_places
from twowaysigns.signatures import Signature
from twowaysigns.terms import term_order

S = Signature(SYMBOLS)
T = Signature(TWO_SIGNS)
A = ("a",)
B = ("b",)
TERM = ("f", ("g", ("f", "X", "Y")), ("p", ("f", A, B), ("f", ("f", "X", A), "Z")))


class TurnedTest(Case):

    def test_no_place(self):
        self.same(TERM, turned(S, TERM, []))
        self.same("X", turned(S, "X", ()))

    def test_one_place(self):
        self.same(("f", ("g", "X"), A), turned(S, ("f", A, ("g", "X")), [()]))
        self.same(("g", ("f", "Y", "X")), turned(signature=S, term=("g", ("f", "X", "Y")), places=((0,),)))

    def test_nested_places_at_once_and_in_any_order(self):
        places = meeting_places(TERM)
        self.assertEqual(5, len(places))
        for chosen in subsets(places):
            for order in itertools.islice(itertools.permutations(chosen), 24):
                self.same(exchanged(TERM, chosen), turned(S, TERM, list(order)))
        self.same(("f", ("f", "Z", ("f", B, A)), "X"), turned(S, ("f", "X", ("f", ("f", A, B), "Z")),
                                                              ((), (1,), (1, 0))))

    def test_random_terms(self):
        rng = random.Random(1)
        for term in random_terms(2, 60, 60):
            places = meeting_places(term)
            chosen = rng.sample(places, rng.randint(0, len(places)))
            self.same(exchanged(term, chosen), turned(S, term, chosen))

    def test_the_first_place_that_is_not_two_way(self):
        for bad in [(0,), (0, 0, 0), (1,), (1, 1, 1), (0, 0, 0, 0), (2,), (-1,), (-2,), (0, -1), (1, 0, -1),
                    (9, 9), (1, 0, 5), (10 ** 30,)]:
            self.raises(BadPlace, {"place": bad}, turned, S, TERM, [bad])
            self.raises(BadPlace, {"place": bad}, turned, S, TERM, [(), (1, 0), bad, (1, 0), (7,)])
        self.raises(BadPlace, {"place": ()}, turned, S, "X", [()])
        self.raises(BadPlace, {"place": (0,)}, turned, S, "X01", [(0,)])
        self.raises(BadPlace, {"place": ()}, turned, S, A, [()])
        self.raises(BadPlace, {"place": ()}, turned, S, ("p", "X", "Y"), [(), ()])

    def test_a_place_that_stands_before(self):
        self.raises(BadPlace, {"place": (1, 0)}, turned, S, TERM, [(1, 0), (), (1, 0), ()])
        self.raises(BadPlace, {"place": ()}, turned, S, TERM, ((), (), (0,)))
        self.raises(BadPlace, {"place": (0,)}, turned, S, TERM, [(), (0,), ()])

    def test_places_are_places_of_the_term_that_was_passed(self):
        term = ("f", ("f", A, B), "X")
        self.same(("f", "X", ("f", B, A)), turned(S, term, [(), (0,)]))
        self.raises(BadPlace, {"place": (1,)}, turned, S, term, [(), (1,)])

    def test_nothing_passed_is_changed(self):
        places = [(1, 0), ()]
        turned(S, TERM, places)
        self.assertEqual([(1, 0), ()], places)


class LeastWritingTest(Case):

    def test_the_example(self):
        self.same(("f", ("f", A, B), ("g", "X")), least_writing(S, ("f", ("g", "X"), ("f", ("b",), ("a",)))))

    def test_small_terms_against_all_turnings(self):
        for term in all_terms(5, ["X", "Y", A]):
            self.same(least_by_search(term), least_writing(S, term))

    def test_two_two_way_symbols(self):
        for term in random_terms(3, 150, 13, ("X", "Y"), TWO_SIGNS):
            self.same(least_by_search(term, TWO_SIGNS), least_writing(signature=T, term=term))

    def test_large_terms(self):
        rng = random.Random(4)
        for term in random_terms(5, 40, 60, ("X", "Y", "X1")) + [
                comb("f", [A] * 30), balanced("f", ["X", "Y"] * 15), comb("f", ["Z", "Y", "X"] * 10)]:
            self.assertLessEqual(size(term), 60)
            least = least_writing(S, term)
            self.assertTrue(alike_by_words(term, least))
            self.assertEqual(least, least_writing(S, least))
            places = meeting_places(term)
            for _ in range(5):
                other = exchanged(term, rng.sample(places, rng.randint(0, len(places))))
                self.assertEqual(least, least_writing(S, other))
                self.assertLessEqual(term_order(S, least), term_order(S, other))

    def test_are_alike_against_all_turnings(self):
        terms = all_terms(5, ["X", A], [("a", 0, False), ("f", 2, True), ("p", 2, False)])
        lists = {term: turnings_by_search(term) for term in terms}
        for one in terms:
            for two in terms:
                self.assertIs(two in lists[one], are_alike(S, one, two))

    def test_are_alike_of_large_terms(self):
        rng = random.Random(6)
        for term in random_terms(7, 40, 60):
            places = meeting_places(term)
            other = exchanged(term, rng.sample(places, rng.randint(0, len(places))))
            self.assertIs(True, are_alike(signature=S, one=term, two=other))
            self.assertIs(False, are_alike(S, term, ("g", other)))
        self.assertIs(False, are_alike(S, ("p", "X", "Y"), ("p", "Y", "X")))
        self.assertIs(False, are_alike(S, "X", "Y"))
        self.assertIs(False, are_alike(S, "X", A))
        self.assertIs(False, are_alike(S, ("f", "X", "X"), ("f", "X", "Y")))
        self.assertIs(True, are_alike(S, ("f", "X", "Y"), ("f", "Y", "X")))


class TwoWayPlacesTest(Case):

    def test_two_way_places(self):
        self.same(((), (0, 0), (1, 0), (1, 1), (1, 1, 0)), two_way_places(S, TERM))
        self.same((), two_way_places(S, ("p", "X", ("g", A))))
        self.same((), two_way_places(S, "X"))
        for term in random_terms(8, 60, 60):
            self.same(tuple(meeting_places(term)), two_way_places(signature=S, term=term))

    def test_a_constant_that_is_no_two_way_symbol_of_another_signature(self):
        self.same((), two_way_places(Signature([("f", 2, False), ("a", 0, False)]), ("f", A, A)))

    def test_even_places(self):
        term = ("f", ("f", ("f", "X", "Y"), ("f", "Y", "X")), ("p", ("f", A, A), ("f", "X", "Y")))
        self.same(((0,), (1, 0)), even_places(S, term))
        self.same((), even_places(S, ("p", "X", "X")))
        self.same(((),), even_places(S, ("f", ("p", "X", "Y"), ("p", "X", "Y"))))
        self.same((), even_places(S, ("f", ("p", "X", "Y"), ("p", "Y", "X"))))
        for term in random_terms(9, 150, 25, ("X",)):
            even = [place for place in meeting_places(term) if alike_by_words(*at(term, place)[1:])]
            self.same(tuple(even), even_places(signature=S, term=term))
