"""Point 55: derivations from closed equations, and derivations of the rules of a completion."""

import random

from tests.helpers import SYMBOLS, tower
from tests.searches import conclusions_by_words, equal_by_search
from tests.test_completion import STARTS, WORDS, random_equations, random_walk
from tests.test_deriving import DeriveCase
from tests.test_orders import ORDERS
from tests.test_partingworlds import random_problem
from twowaysigns.completion import complete, replay
from twowaysigns.derivedrules import derive_closed, derive_completion
from twowaysigns.errors import BadLine, NotClosed
from twowaysigns.kernel import conclusions
from twowaysigns.orders import Order
from twowaysigns.partingworlds import parting_world
from twowaysigns.signatures import Signature

S = Signature(SYMBOLS)
A = ("a",)
B = ("b",)
AB = ("f", A, B)
ONES = Order(S, [1, 1, 1, 1, 1])
UNIT = (("f", "X", A), "X")


class ClosedTest(DeriveCase):

    def equal(self, equations, one, two):
        self.concludes((one, two), equations, derive_closed(S, equations, one, two))
        self.concludes((two, one), equations, derive_closed(signature=S, equations=tuple(equations), one=two, two=one))

    def test_equal_terms(self):
        for equations, one, two in [
                ([], "X", "X"), ([], AB, ("f", B, A)), ([], ("g", ("f", "X", AB)), ("g", ("f", ("f", B, A), "X"))),
                ([(A, B)], A, B), ([(A, B)], B, A), ([(A, B)], ("f", "X", A), ("f", B, "X")),
                ([(A, B)], ("p", A, ("f", A, "Y")), ("p", B, ("f", "Y", B))),
                ([(AB, A), (A, ("g", B))], ("f", ("g", B), B), ("g", B)),
                ([(tower(5, A), A), (tower(3, A), A)], tower(1, A), A),
                ([(("f", B, A), B), (("f", AB, A), ("g", A))], ("g", A), B)]:
            self.equal(equations, one, two)

    def test_terms_that_are_not_equal(self):
        for equations, one, two in [([], A, B), ([], "X", "Y"), ([(A, B)], "X", A), ([(("g", A), ("g", B))], A, B),
                                    ([(tower(4, A), A), (tower(2, A), A)], tower(1, A), A)]:
            self.assertIsNone(derive_closed(S, equations, one, two))
            self.assertIsNone(derive_closed(S, tuple(equations), two, one))

    def test_equations_that_are_not_closed(self):
        for bad in [("X", A), (A, "X"), (("g", "Y"), ("g", "Y"))]:
            for one, two in [(A, B), (A, A), ("X", "Y")]:
                self.raises(NotClosed, {"index": 0}, derive_closed, S, [bad], one, two)
                self.raises(NotClosed, {"index": 1}, derive_closed, S, ((A, B), bad, bad), one, two)

    def test_just_one_of_world_and_derivation(self):
        rng = random.Random(5503)
        counts = [0, 0]
        for _ in range(400):
            given, one, two = random_problem(rng)
            is_equal = equal_by_search(given, one, two)
            counts[is_equal] += 1
            self.assertIs(is_equal, parting_world(S, one, two, given=given) is None)
            if is_equal:
                self.equal(given, one, two)
            else:
                self.assertIsNone(derive_closed(S, given, one, two))
        self.assertGreater(min(counts), 80)

    def test_long_ways(self):
        equations = [(tower(30, A), A), (tower(29, A), A)]
        self.equal(equations, tower(31, "X"), tower(31, "X"))
        self.equal(equations, tower(17, ("f", A, "X")), tower(17, ("f", "X", tower(8, A))))


class CompletionTest(DeriveCase):

    def derives(self, order, equations, lines):
        """Check the derivation for these lines, which are good ones."""
        found = derive_completion(order, equations, lines)
        self.assertEqual(found, derive_completion(order=order, equations=tuple(equations), lines=tuple(lines)))
        self.only_tuples(found)
        derivation, indexes = found
        concluded = conclusions_by_words(tuple(equations), derivation)
        self.assertNotIn(None, concluded)
        self.same(concluded, conclusions(S, equations, derivation))
        self.assertTrue(all(0 <= index < len(derivation) for index in indexes))
        self.same(replay(order, equations, lines)[0], tuple(concluded[index] for index in indexes))

    def test_no_line(self):
        self.assertEqual((), derive_completion(ONES, [], [])[1])
        self.derives(ONES, [], [])
        self.derives(ONES, [UNIT, (A, B)], [])

    def test_some_lines(self):
        equations = [(("f", "X", "X"), A), (("f", "X", B), "X"), ("X", ("g", ("f", A, "X")))]
        lines = [("orient", 0), ("orient", 0), ("meet", 0), ("orient", 1), ("reduce", 0), ("orient", 0), ("retire", 1),
                 ("reduce", 0), ("orient", 0), ("retire", 2), ("reduce", 0), ("orient", 0), ("shorten", 0)]
        for many in range(len(lines) + 1):
            self.derives(ONES, equations, lines[:many])
        expected = ((("f", "X", "X"), A), (B, A), UNIT, (("g", "X"), "X"))
        self.assertEqual((expected, ()), replay(ONES, equations, lines))

    def test_bad_lines(self):
        equations = [(("f", "X", "X"), A), (("f", "X", B), "X")]
        for line in [("drop", 0), ("orient", 2), ("orient", -1), ("meet", 0), ("retire", 0), ("shorten", 0), ("meet",),
                     ("drop", 0, 0), ("axiom", 0), ("", 0)]:
            self.raises(BadLine, {"index": 0}, derive_completion, ONES, equations, [line])
            self.raises(BadLine, {"index": 1}, derive_completion, ONES, equations, (("reduce", 1), line, ("?", 1)))

    def test_all_lines(self):
        rng = random.Random(5504)
        made = {word: 0 for word in WORDS}
        for start in STARTS * 8:
            lines, _ = random_walk(rng, start)
            self.derives(ONES, start, lines)
            for word, _ in lines:
                made[word] += 1
        self.assertGreater(min(made.values()), 2, made)

    def test_completions(self):
        rng = random.Random(5505)
        for _ in range(80):
            order = rng.choice(ORDERS)
            equations = random_equations(rng, rng.choice([(), ("X", "Y")]), 3)
            self.derives(order, equations, complete(order, equations, limit=rng.randint(1, 4)).lines)
