"""Point 35: closed terms by size."""

import functools
import inspect
import math

from tests.helpers import SYMBOLS, Case, all_terms, least_by_search, size, sorted_terms
from twowaysigns.closedterms import closed_terms, count_closed
from twowaysigns.signatures import Signature

SIGNATURES = [
    SYMBOLS, SYMBOLS[::-1], [("a", 0, False), ("f", 2, True)], [("g", 1, False), ("f", 2, True), ("a", 0, False)],
    [("p", 2, False), ("a", 0, False), ("b", 0, False)], [("f", 2, True), ("h", 2, True), ("a", 0, False)],
    [("a", 0, False), ("g", 1, False), ("h", 1, False)], [("c", 0, False), ("b", 0, False), ("a", 0, False)],
    [("f", 2, True), ("g", 1, False), ("p", 2, False)], [],
]


def closed_by_search(symbols, largest):
    """Return a list of the least writings of the closed terms for each size, in the order of terms."""
    constants = [(name,) for name, arity, _ in symbols if arity == 0]
    found = [{} for _ in range(largest + 1)]
    for term in all_terms(largest, constants, symbols):
        found[size(term)][least_by_search(term, symbols)] = True
    return [sorted_terms(terms, symbols) for terms in found]


def count_by_formula(symbols, largest):
    """Return the number of closed terms for each size, by adding up unordered and ordered pairs."""
    arities = [(arity, two_way) for _, arity, two_way in symbols]

    @functools.cache
    def count(many):
        if many < 1:
            return 0
        total = arities.count((0, False)) if many == 1 else 0
        total += arities.count((1, False)) * count(many - 1)
        splits = [(left, many - 1 - left) for left in range(1, many - 1)]
        total += arities.count((2, False)) * sum(count(left) * count(right) for left, right in splits)
        unordered = sum(count(left) * count(right) for left, right in splits if left < right)
        unordered += sum(math.comb(count(left) + 1, 2) for left, right in splits if left == right)
        return total + arities.count((2, True)) * unordered

    return [count(many) for many in range(largest + 1)]


class ClosedTermsTest(Case):

    def test_against_a_list_of_all_terms(self):
        for symbols in SIGNATURES:
            signature = Signature(symbols)
            expected = closed_by_search(symbols, 5 if len(symbols) > 3 else 7)
            for many, terms in enumerate(expected):
                self.same(tuple(terms), tuple(closed_terms(signature, many)))
                self.same(len(terms), count_closed(signature, many))

    def test_small_sizes(self):
        signature = Signature(SYMBOLS)
        self.same((), tuple(closed_terms(signature, 0)))
        self.same((("a",), ("b",)), tuple(closed_terms(signature=signature, size=1)))
        self.same((("g", ("a",)), ("g", ("b",))), tuple(closed_terms(signature, 2)))
        self.same((("f", ("a",), ("a",)), ("f", ("a",), ("b",)), ("f", ("b",), ("b",)), ("g", ("g", ("a",))),
                   ("g", ("g", ("b",))), ("p", ("a",), ("a",)), ("p", ("a",), ("b",)), ("p", ("b",), ("a",)),
                   ("p", ("b",), ("b",))), tuple(closed_terms(signature, 3)))

    def test_sizes_up_to_seven(self):
        signature = Signature(SYMBOLS)
        for many, expected in enumerate(count_by_formula(SYMBOLS, 7)):
            terms = list(closed_terms(signature, many))
            self.assertEqual(expected, len(terms))
            self.assertEqual(expected, len(set(terms)))
            self.assertEqual({many} if terms else set(), {size(term) for term in terms})
            self.assertEqual(sorted_terms(terms), terms)

    def test_a_generator_that_begins_again(self):
        signature = Signature(SYMBOLS)
        one, two = closed_terms(signature, 4), closed_terms(signature, 4)
        self.assertTrue(inspect.isgenerator(one))
        for term in one:
            self.only_tuples(term)
            self.assertEqual(term, next(two))
        self.assertEqual([], list(two))

    def test_few_terms(self):
        for symbols in ([], [("g", 1, False)], [("f", 2, True), ("p", 2, False)]):
            for many in range(8):
                self.same((), tuple(closed_terms(Signature(symbols), many)))
                self.same(0, count_closed(Signature(symbols), many))
        constants = Signature([("b", 0, False), ("a", 0, False)])
        self.assertEqual([0, 2, 0, 0], [count_closed(constants, many) for many in range(4)])
        self.same((("b",), ("a",)), tuple(closed_terms(constants, 1)))


class CountClosedTest(Case):

    def test_against_a_formula(self):
        for symbols in SIGNATURES:
            signature = Signature(symbols)
            for many, expected in enumerate(count_by_formula(symbols, 60)):
                self.same(expected, count_closed(signature, many))
                self.same(expected, count_closed(signature=signature, size=many))

    def test_known_numbers(self):
        meetings = Signature([("a", 0, False), ("f", 2, True)])
        known = [1, 1, 1, 2, 3, 6, 11, 23, 46, 98, 207, 451, 983, 2179, 4850, 10905, 24631, 56011, 127912, 293547]
        self.assertEqual(known, [count_closed(meetings, 2 * many + 1) for many in range(20)])
        self.assertEqual([0] * 30, [count_closed(meetings, 2 * many) for many in range(30)])
        ordered = Signature([("a", 0, False), ("p", 2, False)])
        self.assertEqual([math.comb(2 * many, many) // (many + 1) for many in range(30)],
                         [count_closed(ordered, 2 * many + 1) for many in range(30)])
        line = Signature([("a", 0, False), ("b", 0, False), ("g", 1, False), ("h", 1, False)])
        self.assertEqual([2 ** many for many in range(1, 61)], [count_closed(line, many) for many in range(1, 61)])
