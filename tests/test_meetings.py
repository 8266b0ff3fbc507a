"""Points 45 and 46: meetings of rules, and peaks that have two ends."""

import random

from tests.helpers import SYMBOLS, Case, alike_by_words, is_case_by_search, random_term
from tests.searches import all_ends, end_by_search, meetings_by_search
from tests.test_orders import ORDERS
from tests.test_rules import random_pairs
from twowaysigns.meetings import meetings_of, two_ends
from twowaysigns.orders import Order
from twowaysigns.rules import Rules
from twowaysigns.signatures import Signature

S = Signature(SYMBOLS)
A = ("a",)
B = ("b",)
ONES = Order(S, [1, 1, 1, 1, 1])


def random_rules(rng):
    """Return a few random rules."""
    order = rng.choice(ORDERS)
    return Rules(order, random_pairs(rng, order, 4, rng.randint(3, 7)))


class MeetingsTest(Case):

    def test_the_example(self):
        rules = Rules(Order(S, [1, 1, 1, 1, 1]), [(("f", "X", "X"), A), (("f", "X", B), "X")])
        expected = ((0, (), 1, ("f", B, B), A, B), (1, (), 0, ("f", B, B), B, A))
        self.same(expected, meetings_of(rules))
        self.same(expected, meetings_of(rules=rules))
        self.same((("f", B, B), A, B), two_ends(rules))
        self.same((("f", B, B), A, B), two_ends(rules=rules))

    def test_no_rule_and_no_meeting(self):
        for pairs in [(), [(("g", A), A)], [(("g", A), A), (("p", "X", "X"), "X")], [(("p", "X", A), "X")]]:
            self.same((), meetings_of(Rules(ONES, pairs)))
            self.assertIsNone(two_ends(Rules(ONES, pairs)))

    def test_a_rule_meets_itself_below_its_top(self):
        rules = Rules(ONES, [(("g", ("g", "X")), ("f", "X", A))])
        peak = ("g", ("g", ("g", "V1")))
        # The row is a least telling, which says how its sides are turned.
        self.same(((0, (0,), 0, peak, ("f", A, ("g", "V1")), ("g", ("f", "V1", A))),), meetings_of(rules))
        self.same((peak, ("f", A, ("g", "V1")), ("g", ("f", "V1", A))), two_ends(rules))

    def test_a_two_way_rule_meets_itself_at_its_top(self):
        rules = Rules(ONES, [(("f", ("g", "X"), "Y"), ("g", "X"))])
        found = meetings_of(rules)
        self.same(meetings_by_search(rules.pairs), found)
        self.assertIn((0, (), 0), [meeting[:3] for meeting in found])
        self.assertIsNotNone(two_ends(rules))
        one_way = Rules(ONES, [(("p", ("g", "X"), "Y"), ("g", "X"))])
        self.same((), meetings_of(one_way))

    def test_variables_of_two_rules_are_different_ones(self):
        rules = Rules(ONES, [(("p", "X", ("g", "Y")), "X"), (("g", ("p", "Y", "X")), "X")])
        self.same(((0, (1,), 1, ("p", "V1", ("g", ("p", "V2", "V3"))), "V1", ("p", "V1", "V3")),
                   (1, (0,), 0, ("g", ("p", "V1", ("g", "V2"))), ("g", "V2"), ("g", "V1"))), meetings_of(rules))
        names = Rules(ONES, [(("p", "A0", ("g", "B0")), "A0"), (("g", ("p", "B0", "A0")), "A0")])
        self.same(meetings_of(rules), meetings_of(names))
        names = Rules(ONES, [(("p", "B1", ("g", "B0")), "B1"), (("g", ("p", "A1", "A0")), "A0")])
        self.same(meetings_of(rules), meetings_of(names))

    def test_sorted_by_i_then_places_then_j_then_rows(self):
        rng = random.Random(4501)
        for _ in range(60):
            keys = [meeting[:3] for meeting in meetings_of(random_rules(rng))]
            self.assertEqual(sorted(keys), keys)

    def test_only_the_widest_rows(self):
        rules = Rules(ONES, [(("f", "X", "Y"), "X"), (("f", "X", A), A)])
        for key in {meeting[:3] for meeting in meetings_of(rules)}:
            rows = [meeting[3:] for meeting in meetings_of(rules) if meeting[:3] == key]
            for row in rows:
                self.assertFalse(any(is_case_by_search(row, other) for other in rows if other != row))

    def test_random_meetings(self):
        rng = random.Random(4502)
        many = 0
        for _ in range(120):
            rules = random_rules(rng)
            found = meetings_of(rules)
            self.same(meetings_by_search(rules.pairs), found)
            self.same(found, meetings_of(rules))
            many += len(found)
            for _, _, _, peak, one, two in found:
                self.assertFalse(alike_by_words(one, two))
                self.assertEqual("greater", rules.order.compare(peak, one))
                self.assertEqual("greater", rules.order.compare(peak, two))
        self.assertGreater(many, 200)


class TwoEndsTest(Case):

    def test_the_first_meeting_with_two_ends(self):
        rng = random.Random(4601)
        counts = [0, 0]
        for _ in range(150):
            rules = random_rules(rng)
            expected = None
            for _, _, _, peak, one, two in meetings_by_search(rules.pairs):
                ends = (end_by_search(rules.pairs, one), end_by_search(rules.pairs, two))
                if expected is None and ends[0] != ends[1]:
                    expected = (peak, *ends)
            found = two_ends(rules)
            counts[found is None] += 1
            self.assertEqual(expected, found)
            if found is not None:
                self.only_tuples(found)
                self.assertGreater(len(all_ends(rules.pairs, found[0])), 1)
        self.assertGreater(min(counts), 30)

    def test_every_term_has_one_end_if_none_is_told(self):
        rng = random.Random(4602)
        for _ in range(100):
            rules = random_rules(rng)
            if two_ends(rules) is None:
                for _ in range(10):
                    term = random_term(rng, rng.randint(1, 9))
                    self.assertEqual({end_by_search(rules.pairs, term)}, all_ends(rules.pairs, term))

    def test_meetings_whose_sides_have_the_same_end(self):
        pairs = [(("g", ("f", "X", "Y")), ("f", "X", "Y")), (("f", "X", A), A), (("g", A), A)]
        rules = Rules(ONES, pairs)
        self.assertGreater(len(meetings_of(rules)), 0)
        self.assertIsNone(two_ends(rules))
        rules = Rules(ONES, pairs[:2])
        peak, one, two = two_ends(rules)
        self.same((("g", A), A), tuple(sorted((one, two), reverse=True)))
        self.assertTrue(alike_by_words(("g", ("f", A, "V1")), peak))
