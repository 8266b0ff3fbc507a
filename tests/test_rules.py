"""Points 43 and 44: rules, and the steps that terms take by them."""

import random

from tests.helpers import SYMBOLS, Case, comb, random_term, tower
from tests.searches import end_by_search, run_by_search, steps_by_search
from tests.test_orders import ORDERS, greater_by_words
from twowaysigns.errors import NotFalling
from twowaysigns.orders import Order
from twowaysigns.rules import Rules, end_of, run_of, steps_of
from twowaysigns.signatures import Signature

S = Signature(SYMBOLS)
A = ("a",)
B = ("b",)
ONES = Order(S, [1, 1, 1, 1, 1])
UNIT = (("f", "X", A), "X")
SAME = (("f", "X", "X"), A)


def random_pairs(rng, order, most, largest=6):
    """Return random pairs that fall in the order, at most as many as the number says."""
    pairs = []
    for _ in range(rng.randint(0, most)):
        for _ in range(50):
            pair = (random_term(rng, rng.randint(1, largest)), random_term(rng, rng.randint(1, largest - 1)))
            if greater_by_words(order, *pair):
                pairs.append(pair)
                break
    return tuple(pairs)


class RulesTest(Case):

    def test_fields(self):
        pairs = [UNIT, SAME]
        for rules in (Rules(ONES, pairs), Rules(order=ONES, pairs=tuple(pairs))):
            self.assertIs(ONES, rules.order)
            self.same((UNIT, SAME), rules.pairs)
        rules = Rules(ONES, pairs)
        pairs.append(UNIT)
        self.same((UNIT, SAME), rules.pairs)
        self.assertEqual([UNIT, SAME, UNIT], pairs)
        self.same((), Rules(ONES, []).pairs)
        self.assertEqual(8, len(Rules(ONES, [UNIT] * 8).pairs))

    def test_pairs_that_do_not_fall(self):
        less = (A, B)
        alike = (("f", A, B), ("f", B, A))
        apart = (("g", "X"), ("g", "Y"))
        for bad in (less, alike, apart, ("X", "X"), ("X", "Y"), ("X", A), (A, "X"), UNIT[::-1]):
            self.raises(NotFalling, {"index": 0}, Rules, ONES, [bad])
            self.raises(NotFalling, {"index": 2}, Rules, ONES, [UNIT, SAME, bad, UNIT])
            self.raises(NotFalling, {"index": 1}, Rules, order=ONES, pairs=(UNIT, bad, bad))

    def test_the_order_decides(self):
        pair = (("g", "X"), ("f", "X", "X"))
        self.raises(NotFalling, {"index": 0}, Rules, Order(S, [1, 1, 1, 9, 1]), [pair])
        pair = (("g", A), ("f", A, B))
        self.same((pair,), Rules(Order(S, [1, 1, 1, 9, 1]), [pair]).pairs)
        self.raises(NotFalling, {"index": 0}, Rules, ONES, [pair])


class StepsTest(Case):

    def test_without_rules_every_term_is_an_end(self):
        rules = Rules(ONES, ())
        for term in ("X", A, ("f", B, A), tower(19)):
            self.same((), steps_of(rules, term))
            self.same((term,), run_of(rules, term))
        self.same(("f", A, B), end_of(rules, ("f", B, A)))
        self.same(("p", B, A), end_of(rules, ("p", B, A)))

    def test_places_indexes_and_fillings_in_order(self):
        rules = Rules(ONES, [UNIT, (("f", "Y", "X"), "Y")])
        term = ("g", ("f", A, ("f", B, A)))
        expected = (
            ((0,), 0, (("X", ("f", A, B)),), ("g", ("f", A, B))),
            ((0,), 1, (("X", A), ("Y", ("f", A, B))), ("g", ("f", A, B))),
            ((0,), 1, (("X", ("f", A, B)), ("Y", A)), ("g", A)),
            ((0, 1), 0, (("X", B),), ("g", ("f", A, B))),
            ((0, 1), 1, (("X", A), ("Y", B)), ("g", ("f", A, B))),
            ((0, 1), 1, (("X", B), ("Y", A)), ("g", ("f", A, A))))
        self.same(expected, steps_of(rules, term))
        self.same(expected, steps_of(rules=rules, term=term))

    def test_a_filling_for_each_match(self):
        rules = Rules(ONES, [(("f", ("g", "X"), "Y"), ("g", "X"))])
        term = ("f", ("g", A), ("g", B))
        self.same((((), 0, (("X", A), ("Y", ("g", B))), ("g", A)), ((), 0, (("X", B), ("Y", ("g", A))), ("g", B))),
                  steps_of(rules, term))

    def test_only_what_stands_outside_of_the_part_keeps_its_writing(self):
        rules = Rules(ONES, [(("g", "X"), "X")])
        term = ("f", B, ("f", ("g", ("f", B, A)), A))
        self.same((((1, 0), 0, (("X", ("f", A, B)),), ("f", B, ("f", ("f", A, B), A))),), steps_of(rules, term))

    def test_variables_of_the_term_are_not_replaced(self):
        rules = Rules(ONES, [UNIT])
        self.same((), steps_of(rules, ("f", "X", "Y")))
        self.same((((), 0, (("X", "X"),), "X"),), steps_of(rules, ("f", A, "X")))
        self.same((((), 0, (("X", "Y"),), "Y"),), steps_of(rules, ("f", "Y", A)))

    def test_random_steps(self):
        rng = random.Random(4301)
        many = 0
        for _ in range(400):
            order = rng.choice(ORDERS)
            pairs = random_pairs(rng, order, 4, rng.randint(3, 6))
            rules = Rules(order, list(pairs))
            term = random_term(rng, rng.randint(1, 12))
            self.same(steps_by_search(pairs, term), steps_of(rules, term))
            many += len(steps_of(rules, term))
        self.assertGreater(many, 150)


class RunTest(Case):

    def test_the_example(self):
        rules = Rules(Order(S, [1, 1, 1, 1, 1]), [UNIT])
        self.same((("f", A, ("f", B, A)), ("f", A, B), B), run_of(rules, ("f", A, ("f", B, A))))
        self.same(B, end_of(rules, ("f", A, ("f", B, A))))

    def test_the_first_step_is_taken(self):
        rules = Rules(ONES, [(("p", "X", "Y"), "Y"), (("p", "X", "Y"), "X"), (("g", "X"), "X")])
        term = ("g", ("p", A, ("g", B)))
        self.same((term, ("p", A, ("g", B)), ("g", B), B), run_of(rules, term))
        self.same((term, ("p", A, ("g", B)), ("g", B), B), run_of(rules=rules, term=term))
        self.same(B, end_of(rules=rules, term=term))

    def test_an_end_is_told_in_least_writing(self):
        rules = Rules(ONES, [(("g", "X"), "X")])
        self.same((("g", ("f", B, A)), ("f", A, B)), run_of(rules, ("g", ("f", B, A))))
        self.same((("f", B, ("g", A)), ("f", B, A)), run_of(rules, ("f", B, ("g", A))))
        self.same(("f", A, B), end_of(rules, ("f", B, ("g", A))))
        self.same(("f", A, ("f", "X", A)), end_of(rules, ("f", ("f", "X", A), ("g", ("g", A)))))

    def test_long_runs(self):
        rules = Rules(ONES, [(("g", ("f", "X", "Y")), ("f", ("g", "X"), "Y")), (("p", "X", "Y"), ("f", "X", "Y"))])
        term = tower(4, comb("p", ["X", A, B, "Y", A, B, "X", "Y"]))
        self.assertLess(10, len(run_of(rules, term)))
        self.same(run_by_search(rules.pairs, term), run_of(rules, term))
        self.same(end_by_search(rules.pairs, term), end_of(rules, term))
        self.assertEqual(20, len(run_of(Rules(ONES, [(("g", "X"), "X")]), tower(19))))

    def test_random_runs(self):
        rng = random.Random(4401)
        for _ in range(250):
            order = rng.choice(ORDERS)
            pairs = random_pairs(rng, order, 4)
            rules = Rules(order, pairs)
            term = random_term(rng, rng.randint(1, 10))
            run = run_of(rules, term)
            self.same(run_by_search(pairs, term), run)
            self.same(end_by_search(pairs, term), end_of(rules, term))
            self.same((), steps_of(rules, run[-1]))
            self.same(run, run_of(rules, term))
