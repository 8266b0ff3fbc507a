"""Point 34: the nearest rows above."""

import itertools
import random

from tests.helpers import (SYMBOLS, Case, all_terms, balanced, is_case_by_search, least_telling_by_search,
                           meeting_places, random_term, sorted_rows)
from twowaysigns.above import nearest_above
from twowaysigns.errors import BadWidth
from twowaysigns.matching import is_case
from twowaysigns.signatures import Signature

S = Signature(SYMBOLS)
A = ("a",)
B = ("b",)
FEW = [("f", 2, True), ("g", 1, False)]
SMALL = [(term,) for term in all_terms(5, ["X", "Y", A, B], FEW)]
PAIRS = list(itertools.product(all_terms(3, ["X", "Y", A], FEW), repeat=2))


class NearestAboveTest(Case):

    def check(self, expected, rows):
        self.same(expected, nearest_above(S, rows))
        self.assertEqual(expected, nearest_above(signature=S, rows=tuple(tuple(row) for row in rows)))

    def test_the_example(self):
        self.check(((("f", "V1", ("g", "V2")),),), [(("f", A, ("g", B)),), (("f", ("g", A), B),)])

    def test_one_row(self):
        for row in [("X",), (A, B), (("f", "Y", ("f", "Z", "Y")), "Z"), ("X", "Y", "X", ("p", "Y", A))]:
            self.check((least_telling_by_search(row),), [row])
            self.check((least_telling_by_search(row),), [row, row])
            self.check((least_telling_by_search(row),), [row, list(row), row])

    def test_two_rows(self):
        self.check((("V1",),), [(A,), (B,)])
        self.check((("V1",),), [("X",), (("g", "X"),)])
        self.check(((("g", "V1"), ("p", "V1", "V2")),), [(("g", A), ("p", A, A)), (("g", B), ("p", B, ("g", B)))])
        self.check((("V1", A, ("g", "V1")),), [(A, A, ("g", A)), (B, A, ("g", B))])

    def test_a_variable_that_must_occur_twice(self):
        self.check(((("p", "V1", "V1"),),), [(("p", A, A),), (("p", B, B),)])
        self.check((("V1", "V1"),), [(("f", A, B), ("f", B, A)), (A, A)])
        self.check((("V1", "V2"),), [(A, B), (B, B), (B, A)])
        self.check((("V1", "V2", "V1"),), [(A, A, A), (A, B, A), (B, B, B)])

    def test_three_rows(self):
        self.check(((("f", "V1", "V2"), A),), [(("f", A, B), A), (("f", A, ("g", B)), A), (("f", ("g", B), B), A)])
        self.check(((("f", "V1", B),),), [(("f", A, B),), (("f", B, ("g", B)),), (("f", B, B),)])
        self.check((("V1",),), [(A,), (A,), (B,)])

    def test_variables_have_nothing_to_do_with_each_other(self):
        self.check((("V1", "V2"),), [("X", "Y"), ("X", "X")])
        self.check((("V1", "V2"),), [("X", "Y"), ("Y", "X"), ("X", "Y")])
        self.check((("V1", "V1"),), [("X", "X"), (("g", "X"), ("g", "X"))])
        self.check(((("f", "V1", "V2"),),), [(("f", "X", A),), (("f", ("g", "X"), "X"),)])
        self.check(((("f", "V1", A),),), [(("f", "X", A),), (("f", A, "X"),)])

    def test_several_nearest_rows(self):
        rows = [(("f", ("f", A, B), ("f", A, A)),), (("f", ("f", B, B), ("f", A, B)),)]
        self.check(((("f", ("f", "V1", "V1"), ("f", "V1", "V2")),), (("f", ("f", "V1", "V1"), ("f", A, B)),),
                    (("f", ("f", "V1", A), ("f", "V1", B)),)), rows)
        self.assertEqual(nearest_above(S, rows), nearest_above(S, rows[::-1]))
        rows = [(("f", ("g", A), ("p", A, B)), A), (("f", ("g", B), ("p", B, A)), B)]
        self.check(((("f", ("g", "V1"), ("p", "V1", "V2")), "V1"),), rows)
        rows = [(("f", A, B), "X"), (("f", ("g", A), ("g", B)), "X")]
        self.check(((("f", "V1", "V2"), "V3"),), rows)
        rows = [(("f", A, B), A, B), (("f", ("g", A), ("g", B)), ("g", B), A)]
        self.check(((("f", "V1", "V2"), "V1", "V3"),), rows)
        rows = [(("f", A, B), A, B), (("f", ("g", A), ("g", B)), ("g", B), ("g", B))]
        self.check(((("f", "V1", "V2"), "V1", "V3"), (("f", "V1", "V2"), "V3", "V1")), rows)

    def test_against_a_search(self):
        rng = random.Random(1)
        several = 0
        for _ in range(120):
            width = rng.randint(1, 2)
            symbols = rng.choice([FEW, SYMBOLS, [("f", 2, True), ("a", 0, False), ("b", 0, False)]])
            is_even = width == 1 and rng.random() < 0.6
            rows = []
            while len(rows) < 3:
                row = tuple(random_term(rng, rng.choice([1, 3, 5, 7]), ("X", "Y"), symbols) for _ in range(width))
                if is_even:
                    row = (balanced("f", [rng.choice(["X", A, B, ("g", A)]) for _ in range(4)]),)
                if sum(len(meeting_places(term)) for term in row) <= 4:
                    rows.append(row)
            rows = rows[:rng.randint(1, 3)]
            nearest = nearest_above(S, rows)
            self.only_tuples(nearest)
            several += len(nearest) > 1
            self.assertEqual([least_telling_by_search(row) for row in nearest], list(nearest))
            self.assertEqual(sorted_rows(nearest), list(nearest))
            for row in nearest:
                self.assertTrue(all(is_case_by_search(given, row) for given in rows))
                self.assertFalse(any(is_case_by_search(other, row) for other in nearest if other != row))
            for above in rng.sample(SMALL if width == 1 else PAIRS, 120):
                expected = all(is_case(S, given, above) for given in rows)
                self.assertEqual(expected, any(is_case(S, row, above) for row in nearest))
        self.assertLess(5, several)

    def test_many_two_way_places(self):
        rows = [(("f", ("f", A, B), ("f", ("g", A), ("f", A, "X"))),), (("f", ("f", ("f", B, B), "Y"), ("f", A, ("g", B))),),
                (("f", ("f", B, ("g", A)), ("f", A, ("f", A, A))),)]
        nearest = nearest_above(S, rows)
        for row in nearest:
            self.assertTrue(all(is_case_by_search(given, row) for given in rows))
        for order in itertools.permutations(rows):
            self.assertEqual(nearest, nearest_above(S, order))

    def test_bad_width(self):
        for rows, index in [([(A,), (A, B)], 1), ([(A, B), (A,)], 1), ([(A,), (B,), (A, B)], 2), ([(A,), (A, B), (A, B)], 1),
                            ([(A, A), (B, B), (A, B, A)], 2), ([["X"], ["Y", "Y"], ["Z", "Z", "Z"]], 1)]:
            self.raises(BadWidth, {"index": index}, nearest_above, S, rows)
