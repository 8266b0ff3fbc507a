"""Points 5, 7, 8 and 9: terms, places, parts and orders."""

import itertools
import random

from tests.helpers import (SYMBOLS, Case, all_terms, at, comb, compare_rows, compare_terms, every_place, occurrences,
                           random_terms, size, sorted_rows, sorted_terms, tower)
from twowaysigns.errors import BadPlace, BadTerm
from twowaysigns.signatures import Signature
from twowaysigns.terms import (check_term, part_at, places_of, replaced_at, row_order, row_variables, size_of,
                               term_order, variables_of)

S = Signature(SYMBOLS)
A = ("a",)
B = ("b",)
BAD = ["", "a", "f", "x", "X ", "XX", "X1234567", "?", (), ("X",), ("c",), ("",), ("a", "X"), ("f",), ("f", "X"),
       ("f", "X", "Y", "Z"), ("g",), ("g", "X", "Y"), (("a",), "X"), (("f", "X", "Y"),), ((), ()), ("X", "X", "X"),
       (("f",), "X", "X"), ("f", "X", "Y", ())]


class CheckTermTest(Case):

    def test_terms_are_accepted(self):
        for term in ["X", "X01", A, ("f", "X", A), ("p", ("g", "X"), ("f", B, B))] + random_terms(1, 100, 60):
            self.assertIsNone(check_term(S, term))
        self.assertIsNone(check_term(signature=S, value="X"))

    def test_every_bad_kind_at_the_root(self):
        for value in BAD:
            self.raises(BadTerm, {"place": ()}, check_term, S, value)

    def test_every_bad_kind_deep_inside(self):
        for value in BAD:
            self.raises(BadTerm, {"place": (1, 0, 0)}, check_term, S, ("f", A, ("g", ("p", value, "X"))))
            self.raises(BadTerm, {"place": (0,)}, check_term, S, ("p", value, value))
            self.raises(BadTerm, {"place": (1,)}, check_term, S, ("p", "X", value))

    def test_the_first_bad_place_in_order_is_told(self):
        self.raises(BadTerm, {"place": (0, 1)}, check_term, S, ("f", ("f", "X", ()), ()))
        self.raises(BadTerm, {"place": (0,)}, check_term, S, ("f", ("f", ()), ()))
        self.raises(BadTerm, {"place": ()}, check_term, S, ("f", (), (), ()))
        self.raises(BadTerm, {"place": (1,)}, check_term, S, ("p", ("g", ("g", ("g", "X"))), ("g", (), ())))
        self.raises(BadTerm, {"place": (0, 0, 0)}, check_term, S, ("p", ("g", ("g", "x")), "y"))

    def test_against_all_places_of_broken_terms(self):
        rng = random.Random(5)
        for term in random_terms(6, 100, 30):
            broken = sorted(rng.sample(every_place(term), min(2, len(every_place(term)))))
            value = term
            for place in reversed(broken):
                value = replaced_at(value, place, rng.choice(BAD))
            self.raises(BadTerm, {"place": broken[0]}, check_term, S, value)

    def test_nested_sixty_deep(self):
        self.assertIsNone(check_term(S, tower(59)))
        self.raises(BadTerm, {"place": (0,) * 59}, check_term, S, tower(59, "x"))
        self.raises(BadTerm, {"place": ()}, check_term, S, tower(60, (), "q"))
        value = ()
        for _ in range(59):
            value = (value,)
        self.raises(BadTerm, {"place": ()}, check_term, S, value)

    def test_other_signatures(self):
        empty = Signature([])
        self.assertIsNone(check_term(empty, "X"))
        self.raises(BadTerm, {"place": ()}, check_term, empty, A)
        self.raises(BadTerm, {"place": (0,)}, check_term, Signature([("f", 1, False)]), ("f", A))


class PartsTest(Case):

    def test_size(self):
        self.assertEqual(1, size_of("X"))
        self.assertEqual(1, size_of(A))
        self.assertEqual(3, size_of(("f", "X", A)))
        self.assertEqual(60, size_of(term=tower(59)))
        for term in random_terms(2, 100, 60):
            self.assertEqual(size(term), size_of(term))

    def test_variables(self):
        self.same((), variables_of(A))
        self.same(("X",), variables_of("X"))
        self.same(("Y", "X", "X0"), variables_of(("f", ("p", "Y", "X"), ("f", "X0", "Y"))))
        for term in random_terms(3, 100, 60, ("X", "Y", "X1", "X01")):
            self.same(tuple(dict.fromkeys(occurrences(term))), variables_of(term=term))

    def test_row_variables(self):
        row = [("f", "Z", "X"), A, "Y", ("g", "X")]
        self.same(("Z", "X", "Y"), row_variables(row))
        self.same(("Z", "X", "Y"), row_variables(tuple(row)))
        self.same(("Z", "X", "Y"), row_variables(row=row))
        self.assertEqual([("f", "Z", "X"), A, "Y", ("g", "X")], row)
        self.same((), row_variables([A]))

    def test_places(self):
        self.same(((),), places_of("X"))
        self.same(((),), places_of(A))
        self.same(((), (0,), (0, 0), (1,), (1, 0), (1, 1)), places_of(("f", ("g", "X"), ("p", A, "Y"))))
        for term in random_terms(4, 100, 60):
            self.same(tuple(every_place(term)), places_of(term=term))

    def test_part_at_every_place(self):
        self.assertEqual("X", part_at(("f", A, ("g", "X")), (1, 0)))
        for term in random_terms(7, 60, 40):
            for place in every_place(term):
                self.assertEqual(at(term, place), part_at(term, place))
        self.assertEqual(A, part_at(term=("g", A), place=(0,)))

    def test_replaced_at_every_place(self):
        self.same(("f", A, ("g", B)), replaced_at(("f", A, ("g", "X")), (1, 0), B))
        self.same(("f", A, "Y"), replaced_at(term=("f", A, ("g", "X")), place=(1,), new="Y"))
        new = ("p", "N", "N")
        for term in random_terms(8, 60, 40):
            self.assertEqual(new, replaced_at(term, (), new))
            for place in every_place(term):
                result = replaced_at(term, place, new)
                self.assertEqual(new, at(result, place))
                for other in every_place(term):
                    if other != place[:len(other)] and place != other[:len(place)]:
                        self.assertEqual(at(term, other), at(result, other))
                    elif other == place[:len(other)] and other != place:
                        self.assertEqual(at(term, other)[0], at(result, other)[0])
                        self.assertEqual(len(at(term, other)), len(at(result, other)))

    def test_places_that_are_none(self):
        term = ("f", ("g", "X"), A)
        bad = [(0, 0, 0), (0, 0, 0, 5), (0, 1), (1, 0), (2,), (2, 0), (-1,), (-2,), (-3,), (0, -1), (-1, 0), (0, -2),
               (10 ** 30,), (0, 10 ** 30), (1, -1), (0, 0, -1), (-1,) * 200, (0,) * 1000]
        for place in bad:
            self.raises(BadPlace, {"place": place}, part_at, term, place)
            self.raises(BadPlace, {"place": place}, replaced_at, term, place, "Y")
        for place in [(0,), (-1,), (1, 2)]:
            for sign in ("X", "X01", A):
                self.raises(BadPlace, {"place": place}, part_at, sign, place)
                self.raises(BadPlace, {"place": place}, replaced_at, sign, place, "Y")
                self.raises(BadPlace, {"place": (0,) + place}, part_at, ("g", sign), (0,) + place)


class OrderTest(Case):

    VARIABLES = ["A", "B", "X", "Z", "A0", "A9", "B0", "X1", "A00", "A01", "A10", "Z99", "A0000", "A00000", "Z99999"]

    def ordered(self, terms, signature=S):
        return sorted(terms, key=lambda term: term_order(signature, term))

    def test_variables_by_length_then_alphabet(self):
        for seed in range(5):
            mixed = list(self.VARIABLES)
            random.Random(seed).shuffle(mixed)
            self.assertEqual(self.VARIABLES, self.ordered(mixed))

    def test_variables_before_applications(self):
        self.assertEqual(["X", "Z99999", A, B], self.ordered([B, "Z99999", A, "X"]))

    def test_ranks_and_not_names(self):
        other = Signature([("z", 0, False), ("f", 2, True), ("a", 0, False), ("m", 1, False)])
        terms = [("z",), ("f", "X", "X"), ("a",), ("m", "X")]
        for mixed in itertools.permutations(terms):
            self.assertEqual(terms, self.ordered(mixed, other))

    def test_ranks_beyond_nine(self):
        names = [f"s{k}" for k in range(12)]
        signature = Signature([(name, 0, False) for name in names])
        self.assertEqual([(name,) for name in names], self.ordered([(name,) for name in reversed(names)], signature))

    def test_the_first_argument_that_differs(self):
        terms = [("f", "X", "Z"), ("f", "Y", "X"), ("f", "X1", "X"), ("f", A, "X"), ("f", A, B), ("f", B, "X")]
        for mixed in itertools.permutations(terms):
            self.assertEqual(terms, self.ordered(mixed))

    def test_against_the_words_for_small_terms(self):
        terms = all_terms(4, ["X", "Y", "X0", A, B])
        random.Random(9).shuffle(terms)
        self.assertEqual(sorted_terms(terms), self.ordered(terms))

    def test_against_the_words_for_large_terms(self):
        terms = random_terms(10, 40, 60, ("X", "Y", "X1", "Y10"))
        for one in terms:
            for two in terms:
                keys = [term_order(S, one), term_order(signature=S, term=two)]
                self.assertEqual(compare_terms(one, two), (keys[0] > keys[1]) - (keys[0] < keys[1]))

    def test_rows(self):
        rows = list(itertools.product(["X", "Y1", A, ("g", "X"), ("f", A, "X")], repeat=2))
        random.Random(11).shuffle(rows)
        self.assertEqual(sorted_rows(rows), sorted(rows, key=lambda row: row_order(S, row)))
        self.assertEqual(sorted_rows(rows), [tuple(row) for row in sorted(
            [list(row) for row in rows], key=lambda row: row_order(signature=S, row=row))])

    def test_rows_of_every_width(self):
        terms = random_terms(12, 12, 12, ("X", "Y1"))
        for width in (1, 3, 4):
            rows = [tuple(random.Random(k).choices(terms, k=width)) for k in range(30)]
            for one in rows:
                for two in rows:
                    keys = [row_order(S, one), row_order(S, two)]
                    self.assertEqual(compare_rows(one, two), (keys[0] > keys[1]) - (keys[0] < keys[1]))

    def test_deep_terms(self):
        terms = [comb("p", ["X"] * k + [end]) for k in (28, 29) for end in ("Y", A)]
        self.assertEqual(sorted_terms(terms), self.ordered(terms[::-1]))
