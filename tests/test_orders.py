"""Points 41 and 42: orders of terms."""

import itertools
import random

from tests.helpers import (SYMBOLS, Case, alike_by_words, all_terms, comb, exchanged, meeting_places, occurrences,
                           put_in, random_term)
from twowaysigns.closedterms import closed_terms
from twowaysigns.errors import BadWeight
from twowaysigns.orders import Order
from twowaysigns.signatures import Signature

S = Signature(SYMBOLS)
A = ("a",)
B = ("b",)
ONES = Order(S, [1, 1, 1, 1, 1])
ORDERS = [ONES, Order(S, [1, 2, 1, 3, 2]), Order(S, [3, 1, 2, 1, 1])]
SMALL = all_terms(3, ["X", "Y", A, B])


def weight_by_words(order, term):
    """Return the weight of the term."""
    names = [name for name, _, _ in order.signature.symbols]
    if isinstance(term, str):
        return 1
    return order.weights[names.index(term[0])] + sum(weight_by_words(order, part) for part in term[1:])


def greater_by_words(order, s, t):
    """Tell whether s is greater than t, by the sentences of point 41."""
    symbols = order.signature.symbols
    names = [name for name, _, _ in symbols]
    if any(occurrences(t).count(name) > occurrences(s).count(name) for name in occurrences(t)):
        return False
    if weight_by_words(order, s) != weight_by_words(order, t):
        return weight_by_words(order, s) > weight_by_words(order, t)
    if isinstance(s, str) or isinstance(t, str):
        return False
    if s[0] != t[0]:
        return names.index(s[0]) > names.index(t[0])
    if not symbols[names.index(s[0])][2]:
        pairs = [(one, two) for one, two in zip(s[1:], t[1:]) if not alike_by_words(one, two, symbols)]
        return bool(pairs) and greater_by_words(order, *pairs[0])
    choices = [(1 - i, 1 - j) for i, j in itertools.product((0, 1), repeat=2)
               if alike_by_words(s[1 + i], t[1 + j], symbols)]
    answers = {greater_by_words(order, s[1 + i], t[1 + j]) for i, j in choices}
    if choices:
        assert len(answers) == 1
        return answers.pop()
    return all(any(greater_by_words(order, one, two) for one in s[1:]) for two in t[1:])


def compared_by_words(order, s, t):
    """Return how two terms compare."""
    if alike_by_words(s, t, order.signature.symbols):
        return "alike"
    if greater_by_words(order, s, t):
        return "greater"
    return "less" if greater_by_words(order, t, s) else "apart"


def turned_at_random(rng, term):
    """Return a turning of the term."""
    places = meeting_places(term)
    return exchanged(term, rng.sample(places, rng.randint(0, len(places))))


class OrderTest(Case):

    def test_fields(self):
        weights = [2, 1, 3, 20, 1]
        for order in (Order(S, weights), Order(signature=S, weights=tuple(weights))):
            self.assertIs(S, order.signature)
            self.same((2, 1, 3, 20, 1), order.weights)
        order = Order(S, weights)
        weights[0] = 9
        self.same((2, 1, 3, 20, 1), order.weights)
        self.same(2, order.weight(A))
        self.same((), Order(Signature([]), []).weights)

    def test_bad_weight(self):
        for bad in (0, -1, -10 ** 30):
            for index in range(5):
                weights = [1] * 5
                weights[index] = bad
                self.raises(BadWeight, {"index": index}, Order, S, weights)
                self.raises(BadWeight, {"index": index}, Order, S, weights[:index + 1] + [0] * (4 - index))

    def test_weight(self):
        order = Order(S, [2, 3, 5, 7, 20])
        for term, expected in [("X", 1), (A, 2), (B, 3), (("f", "X", "X"), 7), (("g", ("p", A, ("f", B, "Y"))), 38)]:
            self.same(expected, order.weight(term))
            self.same(expected, order.weight(term=term))
        for term in SMALL:
            for order in ORDERS:
                self.assertEqual(weight_by_words(order, term), order.weight(term))


class CompareTest(Case):

    def check(self, expected, s, t, order=ONES):
        opposite = {"greater": "less", "less": "greater"}.get(expected, expected)
        self.assertEqual(expected, order.compare(s, t))
        self.assertEqual(expected, order.compare(s=s, t=t))
        self.assertEqual(opposite, order.compare(t, s))
        self.assertEqual(expected, compared_by_words(order, s, t))

    def test_variables(self):
        self.check("alike", "X", "X")
        self.check("apart", "X", "Y")
        self.check("apart", "X", A)
        self.check("apart", ("g", A), "X")
        self.check("greater", ("g", "X"), "X")
        self.check("apart", ("g", "X"), "Y")
        self.check("apart", ("p", "X", "Y"), ("g", ("f", "X", "X")))
        self.check("greater", ("p", "X", ("g", "X")), ("p", "X", "X"))
        self.check("apart", ("p", ("g", ("g", A)), "X"), ("p", "X", "X"))

    def test_weights_and_ranks(self):
        self.check("greater", B, A)
        self.check("greater", A, B, Order(S, [3, 2, 1, 1, 1]))
        self.check("less", ("f", A, "X"), ("p", "X", A))
        self.check("less", ("f", A, "X"), ("f", ("g", "X"), A))
        self.check("greater", ("p", "X", "Y"), ("f", "X", "Y"))
        self.check("less", ("p", "X", "Y"), ("f", "X", "Y"), Order(S, [1, 1, 2, 1, 1]))

    def test_arguments_of_other_symbols(self):
        self.check("greater", ("p", B, A), ("p", A, B))
        self.check("greater", ("p", ("f", A, B), ("g", B)), ("p", ("f", B, A), ("g", A)))
        self.check("apart", ("p", "X", "Y"), ("p", "Y", "X"))
        self.check("alike", ("p", ("f", "X", A), B), ("p", ("f", A, "X"), B))
        self.check("less", ("g", ("g", A)), ("g", ("g", B)))
        self.check("apart", ("p", ("p", "X", "Y"), B), ("p", ("p", "Y", "X"), A))

    def test_two_way_symbols(self):
        self.check("greater", ("f", A, ("g", B)), ("f", ("g", A), A))
        self.check("greater", ("f", ("g", B), "X"), ("f", "X", ("g", A)))
        self.check("alike", ("f", "X", A), ("f", A, "X"))
        self.check("greater", ("f", B, B), ("f", A, B))
        self.check("apart", ("f", ("g", "X"), "Y"), ("f", "X", ("g", "Y")))
        self.check("greater", ("f", ("g", ("g", B)), ("g", A)), ("f", ("g", B), ("g", ("g", A))))
        self.check("less", ("f", ("p", A, A), ("p", A, B)), ("f", ("p", B, A), ("p", B, B)))
        self.check("greater", ("f", ("p", B, B), ("p", A, A)), ("f", ("p", A, B), ("p", B, A)))
        self.check("less", ("f", ("f", A, A), ("f", B, B)), ("f", ("p", A, A), ("f", A, B)))

    def test_turned_terms_compare_alike(self):
        rng = random.Random(1)
        for _ in range(150):
            order = rng.choice(ORDERS)
            s, t = [random_term(rng, rng.randint(3, 10)) for _ in range(2)]
            expected = order.compare(s, t)
            self.assertEqual("alike", order.compare(s, turned_at_random(rng, s)))
            for _ in range(3):
                self.assertEqual(expected, order.compare(turned_at_random(rng, s), turned_at_random(rng, t)))

    def test_against_the_sentences(self):
        rng = random.Random(2)
        answers = {}
        for order in ORDERS:
            for s in SMALL:
                for t in rng.sample(SMALL, 30):
                    answer = order.compare(s, t)
                    self.assertEqual(compared_by_words(order, s, t), answer)
                    answers[answer] = answers.get(answer, 0) + 1
        self.assertEqual(["alike", "apart", "greater", "less"], sorted(answers))
        symbols = [("f", 2, True), ("a", 0, False), ("h", 2, True), ("b", 0, False)]
        order = Order(Signature(symbols), [1, 1, 1, 1])
        for _ in range(400):
            s, t = [random_term(rng, rng.choice([5, 7, 7, 9]), ("X",), symbols) for _ in range(2)]
            self.assertEqual(compared_by_words(order, s, t), order.compare(s, t))

    def test_large_terms(self):
        left, right = [comb("f", [("g", name)] * 10 + [leaf]) for name, leaf in [("X", ("g", B)), ("X", ("g", A))]]
        self.assertEqual("greater", ONES.compare(left, right))
        left, right = [comb("f", [("p", A, B)] * 14 + [leaf]) for leaf in (A, B)]
        self.assertEqual("less", ONES.compare(left, right))
        mixed = [comb("f", [("p", A, B), ("p", B, A)] * 7), comb("f", [("p", B, B), ("p", A, A)] * 7)]
        self.assertIn(ONES.compare(*mixed), ("less", "greater"))


class OrderLawsTest(Case):
    """Point 42."""

    def test_of_two_closed_terms_one_is_greater(self):
        for order in ORDERS:
            terms = [term for many in range(1, 5) for term in closed_terms(S, many)]
            greater = {(s, t): order.compare(s, t) for s in terms for t in terms}
            for (s, t), answer in greater.items():
                self.assertEqual(s == t, answer == "alike")
                self.assertNotEqual("apart", answer)
            below = {s: sum(greater[s, t] == "greater" for t in terms) for s in terms}
            self.assertEqual(list(range(len(terms))), sorted(below.values()))

    def test_greater_of_a_greater_one(self):
        rng = random.Random(3)
        found = 0
        for _ in range(600):
            order = rng.choice(ORDERS)
            one, two, three = [random_term(rng, rng.randint(3, 7), ("X", "Y")) for _ in range(3)]
            if order.compare(one, two) == "greater" and order.compare(two, three) == "greater":
                found += 1
                self.assertEqual("greater", order.compare(one, three))
        self.assertLess(10, found)

    def test_greater_when_filled(self):
        rng = random.Random(4)
        found = 0
        for _ in range(600):
            order = rng.choice(ORDERS)
            s, t = [random_term(rng, rng.randint(2, 7), ("X", "Y", "Z")) for _ in range(2)]
            if order.compare(s, t) == "greater":
                found += 1
                table = {name: random_term(rng, rng.randint(1, 5), ("X", "W")) for name in "XYZ"}
                self.assertEqual("greater", order.compare(put_in(s, table), put_in(t, table)))
        self.assertLess(100, found)

    def test_greater_at_the_same_place(self):
        rng = random.Random(5)
        found = 0
        for _ in range(600):
            order = rng.choice(ORDERS)
            s, t = [random_term(rng, rng.randint(2, 6), ("X", "Y")) for _ in range(2)]
            if order.compare(s, t) == "greater":
                found += 1
                around = random_term(rng, rng.randint(2, 8), ("X", "HERE"))
                self.assertEqual("greater" if "HERE" in occurrences(around) else "alike",
                                 order.compare(put_in(around, {"HERE": s}), put_in(around, {"HERE": t})))
        self.assertLess(100, found)
