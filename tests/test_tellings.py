"""Point 18: least tellings."""

import itertools
import random

from tests.helpers import (SYMBOLS, TWO_SIGNS, Case, all_terms, balanced, comb, exchanged, is_case_by_search,
                           least_telling_by_search, meeting_places, occurrences, put_in, random_terms)
from twowaysigns.matching import is_case
from twowaysigns.signatures import Signature
from twowaysigns.tellings import least_telling

S = Signature(SYMBOLS)
T = Signature(TWO_SIGNS)
A = ("a",)
B = ("b",)


def turned_and_renamed(rng, row):
    """Return another row that is as wide: sides exchanged, variables renamed."""
    names = sorted({name for term in row for name in occurrences(term)})
    table = dict(zip(names, rng.sample([f"N{k}" for k in range(len(names))] + ["V1", "V2", "V0"], len(names))))
    turned = [exchanged(term, rng.sample(meeting_places(term), rng.randint(0, len(meeting_places(term)))))
              for term in row]
    return [put_in(term, table) for term in turned]


class TellingTest(Case):

    def test_the_examples(self):
        self.same((("f", "V1", "V2"), "V1"), least_telling(S, (("f", "Y", "X"), "X")))
        self.same(("V1", ("f", ("f", "V2", A), ("f", "V1", B))),
                  least_telling(S, ("X", ("f", ("f", "Y", A), ("f", "X", B)))))

    def test_small_rows(self):
        self.same(("V1",), least_telling(S, ["X"]))
        self.same((A,), least_telling(S, [A]))
        self.same(("V1", "V2", "V1"), least_telling(S, ["V2", "V1", "V2"]))
        self.same((("f", A, B),), least_telling(signature=S, row=[("f", B, A)]))
        self.same((("p", "V1", "V2"),), least_telling(S, (("p", "X2", "X1"),)))

    def test_skeletons_first(self):
        self.same((("f", ("f", "V1", "V2"), ("g", "V3")),), least_telling(S, [("f", ("g", "X"), ("f", "Y", "Z"))]))
        self.same(("V1", ("f", "V2", ("g", "V1"))), least_telling(S, ["X", ("f", ("g", "X"), "Y")]))
        self.same(("V1", "V2", ("f", "V1", "V2")), least_telling(S, ["X", "Y", ("f", "Y", "X")]))

    def test_then_the_numbers(self):
        row = ["X", "Y", ("f", ("f", "Y", "Z"), ("f", "X", "W"))]
        self.same(("V1", "V2", ("f", ("f", "V1", "V3"), ("f", "V2", "V4"))), least_telling(S, row))
        row = [("f", ("f", "X", "Y"), ("f", "X", "X"))]
        self.same((("f", ("f", "V1", "V1"), ("f", "V1", "V2")),), least_telling(S, row))

    def test_numbers_and_not_names_decide(self):
        variables = [f"X{k}" for k in range(10)]
        row = [comb("p", variables), ("f", "X9", "X1")]
        self.same((comb("p", [f"V{k}" for k in range(1, 11)]), ("f", "V2", "V10")), least_telling(S, row))
        row = [comb("p", variables + ["Y"]), ("f", "Y", "X9"), ("f", "X1", "Y")]
        self.same((comb("p", [f"V{k}" for k in range(1, 12)]), ("f", "V10", "V11"), ("f", "V2", "V11")),
                  least_telling(S, row))

    def test_small_rows_against_all_tellings(self):
        symbols = [("a", 0, False), ("f", 2, True), ("p", 2, False)]
        for term in all_terms(5, ["X", "Y", A], symbols):
            self.same(least_telling_by_search([term]), least_telling(S, [term]))
        terms = all_terms(3, ["X", "Y", "Z"], symbols) + [("f", ("f", "X", "Y"), ("f", "Z", "X")), ("g", "Y")]
        for one in terms:
            for two in terms:
                self.same(least_telling_by_search([one, two]), least_telling(S, [one, two]))

    def test_random_rows_against_all_tellings(self):
        rng = random.Random(1)
        for symbols, signature in ((SYMBOLS, S), (TWO_SIGNS, T)):
            terms = random_terms(2, 200, 11, ("X", "Y", "Z", "W"), symbols)
            for _ in range(150):
                row = rng.sample(terms, rng.randint(1, 4))
                if sum(len(meeting_places(term, symbols)) for term in row) <= 7:
                    self.same(least_telling_by_search(row, symbols), least_telling(signature, row))

    def test_even_trees_against_all_tellings(self):
        rng = random.Random(3)
        for _ in range(40):
            first = balanced("f", [rng.choice(["X", "Y", "Z", "W", "V"]) for _ in range(8)])
            second = comb("p", [rng.choice(["X", "Y", "Z", "W", "V"]) for _ in range(3)])
            for row in ([first], [first, second], [second, first]):
                self.same(least_telling_by_search(row), least_telling(S, row))

    def test_parts_with_the_same_variables_in_other_groups(self):
        names = ("X", "Y", "Z")
        parts = [("f", ("f", one, two), three) for one, two, three in itertools.product(names, repeat=3)]
        for one in parts:
            for two in parts[::2]:
                for row in (["Z", "Y", ("f", one, two)], [("f", one, two)], [("f", one, two), "Y", "X"]):
                    self.same(least_telling_by_search(row), least_telling(S, row))

    def test_turned_and_renamed_rows(self):
        rng = random.Random(4)
        names = ("X", "Y", "Z") + tuple(f"X{k}" for k in range(10))
        for _ in range(60):
            row = random_terms(rng.random(), rng.randint(1, 4), 20, names)
            if sum(len(meeting_places(term)) for term in row) <= 12:
                told = least_telling(S, row)
                for _ in range(5):
                    self.same(told, least_telling(S, turned_and_renamed(rng, row)))
                self.same(told, least_telling(S, told))

    def test_as_wide_exactly_if_the_tellings_are_equal(self):
        symbols = [("a", 0, False), ("f", 2, True), ("g", 1, False)]
        terms = all_terms(4, ["X", "Y", A], symbols)[::2] + [("f", ("f", "X", "Y"), ("f", "Y", "X")),
                                                              ("f", ("f", "X", "Y"), ("f", "X", "X"))]
        for one in terms:
            for two in terms:
                as_wide = is_case_by_search([one], [two]) and is_case_by_search([two], [one])
                self.assertEqual(as_wide, least_telling(S, [one]) == least_telling(S, [two]))

    def test_twelve_two_way_places_and_many_variables(self):
        rng = random.Random(5)
        pairs = [("f", f"X{k}", f"Y{k}") for k in range(12)]
        rows = [[balanced("f", [f"X{k}" for k in range(13)])],
                [comb("f", [f"X{k % 7}" for k in range(13)])],
                [balanced("f", [f"X{k % 4}" for k in range(8)]), balanced("f", [f"X{k % 3}" for k in range(6)])],
                [comb("p", pairs[:6]), comb("p", pairs[6:])],
                [comb("p", pairs[:6]), comb("p", pairs[6:]), comb("p", [f"X{k}" for k in range(12)])],
                [comb("p", pairs[:8]), comb("p", [f"Y{k}" for k in range(8)] + [f"X{k}" for k in range(8)])]]
        for row in rows:
            told = least_telling(S, row)
            self.assertTrue(is_case(S, told, row) and is_case(S, row, told))
            for _ in range(3):
                self.same(told, least_telling(S, turned_and_renamed(rng, row)))

    def test_numbers_run_upwards(self):
        row = [comb("p", [("f", f"X{k}", f"Y{k}") for k in range(6)]), comb("p", [f"Y{k}" for k in range(6)])]
        self.same((comb("p", [("f", f"V{2 * k + 1}", f"V{2 * k + 2}") for k in range(6)]),
                   comb("p", [f"V{2 * k + 1}" for k in range(6)])), least_telling(S, row))

    def test_nothing_passed_is_changed(self):
        row = [("f", "Y", "X"), "X"]
        least_telling(S, row)
        self.assertEqual([("f", "Y", "X"), "X"], row)
