"""Point 17: matches and cases."""

import random

from tests.helpers import (SYMBOLS, TWO_SIGNS, Case, alike_by_words, all_terms, balanced, comb, exchanged,
                           is_case_by_search, matches_by_search, meeting_places, put_in, random_terms, sorted_rows)
from twowaysigns.matching import is_case, matches_of
from twowaysigns.signatures import Signature

S = Signature(SYMBOLS)
T = Signature(TWO_SIGNS)
A = ("a",)
B = ("b",)


class MatchesTest(Case):

    def test_the_example(self):
        self.same(((("X", ("f", "Y", A)),),), matches_of(S, (("f", "X", A),), (("f", A, ("f", A, "Y")),)))

    def test_several_fillings_in_order(self):
        found = matches_of(S, [("f", "Y", "X")], [("f", ("g", A), A)])
        self.same(((("X", A), ("Y", ("g", A))), (("X", ("g", A)), ("Y", A))), found)
        found = matches_of(S, [("f", "X10", "X2")], [("f", B, A)])
        self.same(((("X2", A), ("X10", B)), (("X2", B), ("X10", A))), found)

    def test_each_once(self):
        self.same(((("X", A), ("Y", A)),), matches_of(S, [("f", "X", "Y")], [("f", A, A)]))
        self.same(((("X", ("f", A, B)), ("Y", ("f", A, B))),),
                  matches_of(S, [("f", "X", "Y")], [("f", ("f", B, A), ("f", A, B))]))
        twice = matches_of(S, [("p", ("f", "X", "Y"), ("f", "X", "Y"))], [("p", ("f", A, B), ("f", B, A))])
        self.same(((("X", A), ("Y", B)), (("X", B), ("Y", A))), twice)
        self.same(((("X", A),),), matches_of(S, [("f", ("f", "X", B), ("f", "X", B))],
                                             [("f", ("f", A, B), ("f", B, A))]))

    def test_a_variable_that_occurs_several_times(self):
        self.same(((("X", A), ("Y", B)),), matches_of(S, [("f", ("f", "X", "Y"), "X")], [("f", A, ("f", A, B))]))
        self.same((), matches_of(S, [("f", "X", "X")], [("f", A, B)]))
        self.same(((("X", ("f", A, B)),),), matches_of(S, [("p", "X", "X")], [("p", ("f", A, B), ("f", B, A))]))
        self.same(((("X", A),),), matches_of(S, ["X", ("f", "X", B)], [A, ("f", B, A)]))
        self.same((), matches_of(S, ["X", ("f", "X", B)], [("g", A), ("f", B, A)]))

    def test_variables_of_the_same_names(self):
        self.same(((("X", ("g", "X")),),), matches_of(S, ["X"], [("g", "X")]))
        self.same(((("X", "Y"), ("Y", "X")),), matches_of(S, [("p", "X", "Y")], [("p", "Y", "X")]))
        self.same(((("X", "X"), ("Y", "Y")),), matches_of(S, [("p", "X", "Y")], [("p", "X", "Y")]))
        self.same((), matches_of(S, [A], ["X"]))
        self.same((), matches_of(S, [("p", "X", "X")], [("p", "X", "Y")]))
        self.same((), matches_of(S, [("g", "X")], ["X"]))

    def test_a_pattern_without_variables(self):
        self.same(((),), matches_of(S, [("f", A, B)], [("f", B, A)]))
        self.same((), matches_of(S, [("p", A, B)], [("p", B, A)]))
        self.same((), matches_of(S, [("f", A, B)], [("f", A, "X")]))
        self.same(((),), matches_of(S, [("f", ("f", A, B), ("g", A)), A], [("f", ("g", A), ("f", B, A)), A]))

    def test_other_widths(self):
        self.same((), matches_of(S, ["X"], ["X", "X"]))
        self.same((), matches_of(S, ["X", "Y"], [A]))
        self.assertIs(False, is_case(S, ["X", "X"], ["X"]))
        self.assertIs(False, is_case(S, [A], ["X", "Y"]))

    def test_more_than_four_variables(self):
        variables = ["V", "W", "X", "Y", "Z", "X1", "X2"]
        leaves = [A, B, ("g", A), ("g", B), ("f", B, A), "X", "Y"]
        for build, least in ((comb, 2), (balanced, 16)):
            pattern, row = [build("f", variables)], [build("f", leaves)]
            expected = matches_by_search(pattern, row)
            self.assertLessEqual(least, len(expected))
            self.same(expected, matches_of(S, pattern, row))

    def test_small_terms_against_the_search(self):
        symbols = [("a", 0, False), ("f", 2, True), ("p", 2, False)]
        patterns = all_terms(5, ["X", "Y", A], symbols)[::3]
        rows = all_terms(5, ["X", A], symbols)[::5]
        for pattern in patterns:
            for term in rows:
                self.same(matches_by_search([pattern], [term]), matches_of(S, [pattern], [term]))

    def test_random_rows_against_the_search(self):
        rng = random.Random(1)
        patterns = random_terms(2, 300, 9, ("X", "Y", "Z"))
        terms = random_terms(3, 300, 3, ("X", "Z", "N"))
        found = 0
        for _ in range(300):
            width = rng.randint(1, 2)
            pattern = rng.sample(patterns, width)
            table = {name: rng.choice(terms) for name in ("X", "Y", "Z")}
            row = [put_in(term, table) for term in pattern]
            row = [exchanged(term, rng.sample(meeting_places(term), len(meeting_places(term)) // 2)) for term in row]
            if sum(len(meeting_places(term)) for term in row) > 7:
                continue
            expected = matches_by_search(pattern, row)
            found += len(expected)
            self.same(expected, matches_of(signature=S, pattern=pattern, row=row))
            self.assertIs(True, is_case(signature=S, row=row, pattern=pattern))
        self.assertLess(250, found)

    def test_two_two_way_symbols(self):
        patterns = random_terms(4, 60, 7, ("X", "Y"), TWO_SIGNS)
        for pattern in patterns:
            for term in random_terms(5, 20, 9, ("X",), TWO_SIGNS):
                self.same(matches_by_search([pattern], [term], TWO_SIGNS), matches_of(T, [pattern], [term]))

    def test_twelve_two_way_places(self):
        for many in (6, 12):
            pattern = [comb("p", [("f", f"X{k}", f"Y{k}") for k in range(many)])]
            row = [comb("p", [("f", f"N{k}", ("g", f"M{k}")) for k in range(many)])]
            found = matches_of(S, pattern, row)
            self.assertEqual(2 ** many, len(found))
            self.assertEqual(2 ** many, len(set(found)))
            for filling in found[::17]:
                self.assertTrue(alike_by_words(put_in(pattern[0], dict(filling)), row[0]))
            values = [tuple(value for _, value in filling) for filling in found[:80]]
            self.assertEqual(sorted_rows(values), values)
            self.assertIs(True, is_case(S, row, pattern))

    def test_the_row_may_have_more_two_way_places(self):
        row = [comb("f", [A, B] * 15) for _ in range(4)]
        self.assertEqual(1, len(matches_of(S, ["X", "Y", "Z", "X1"], row)))
        self.assertEqual(2, len(matches_of(S, [("f", "X", "Y"), "Z", "Z", "Z"], row)))
        self.assertIs(True, is_case(S, row, row))

    def test_lists_and_tuples_and_nothing_changed(self):
        pattern, row = ["X", ("f", "X", "Y")], [A, ("f", B, A)]
        self.assertEqual(matches_of(S, tuple(pattern), tuple(row)), matches_of(S, pattern, row))
        self.assertEqual([["X", ("f", "X", "Y")], [A, ("f", B, A)]], [pattern, row])


class IsCaseTest(Case):

    def test_small(self):
        self.assertIs(True, is_case(S, [("f", B, A)], [("f", "X", B)]))
        self.assertIs(False, is_case(S, [("f", "X", B)], [("f", B, A)]))
        self.assertIs(True, is_case(S, (A, B), ("X", "Y")))
        self.assertIs(False, is_case(S, (A, B), ("X", "X")))

    def test_against_the_search(self):
        symbols = [("a", 0, False), ("f", 2, True), ("g", 1, False)]
        terms = all_terms(4, ["X", "Y", A], symbols) + [("f", ("f", "X", "Y"), "X"), ("f", "X", ("f", A, "X"))]
        for one in terms:
            for two in terms:
                self.assertIs(is_case_by_search([one], [two]), is_case(S, [one], [two]))

    def test_every_row_is_a_case_of_itself(self):
        for term in random_terms(6, 30, 25):
            self.assertIs(True, is_case(S, [term], [term]))
            self.assertIs(True, is_case(S, [exchanged(term, meeting_places(term))], [term]))
