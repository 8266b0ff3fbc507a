"""Point 29: sayings."""

import itertools
import random

from tests.helpers import SYMBOLS, Case, all_terms, meets_by_words
from tests.test_solving import random_wishes
from twowaysigns.errors import SayingsDiffer
from twowaysigns.sayings import Saying
from twowaysigns.signatures import Signature
from twowaysigns.wishes import Wishes

S = Signature(SYMBOLS)
A = ("a",)
B = ("b",)
ROWS = list(itertools.product(all_terms(3, ["X", A], [("f", 2, True), ("g", 1, False)]), repeat=2))


def wished(*pairs, asked=("X", "Y"), signature=S):
    """Return wishes."""
    return Wishes(signature, asked, pairs)


def random_saying(rng, most, asked=("X", "Y"), names=("X", "Y", "Z"), largest=5):
    """Return a random saying with at most so many lists, and a function that tells which rows meet it."""
    if most == 1 or rng.random() < 0.2:
        wishes = random_wishes(rng, asked, names, largest, 2)
        saying, meets = Saying(wishes), lambda row: meets_by_words(wishes.asked, wishes.pairs, row)
    else:
        left = rng.randint(1, most - 1)
        one, meets_one = random_saying(rng, left, asked, names, largest)
        two, meets_two = random_saying(rng, most - left, asked, names, largest)
        if rng.random() < 0.5:
            saying, meets = one & two, lambda row: meets_one(row) and meets_two(row)
        else:
            saying, meets = one | two, lambda row: meets_one(row) or meets_two(row)
    return (~saying, lambda row: not meets(row)) if rng.random() < 0.4 else (saying, meets)


class SayingTest(Case):

    def test_fields(self):
        wishes = wished(("X", A), asked=["Y", "X"])
        for saying in [Saying(wishes), Saying(wishes=wishes), ~Saying(wishes), Saying(wishes) & Saying(wishes),
                       Saying(wishes) | ~Saying(wishes)]:
            self.assertIsInstance(saying, Saying)
            self.assertIs(S, saying.signature)
            self.same(("Y", "X"), saying.asked)

    def test_one_list(self):
        saying = Saying(wished(("X", ("f", "Y", A))))
        for row, expected in [((("f", A, B), B), True), ((("f", B, A), B), True), ((("f", A, A), A), True),
                              ((("f", A, A), B), False), (("X", "Y"), False), ((("f", "Y", A), "Y"), True)]:
            self.assertIs(expected, saying.is_met(row))
            self.assertIs(expected, saying.is_met(row=list(row)))
            self.assertIs(not expected, (~saying).is_met(row))
            self.assertIs(expected, (~~saying).is_met(row))

    def test_and_or_not(self):
        one, two = Saying(wished(("X", A))), Saying(wished(("Y", A)))
        for row in itertools.product([A, B, "X"], repeat=2):
            left, right = row[0] == A, row[1] == A
            for saying, expected in [(one & two, left and right), (one | two, left or right), (~one, not left),
                                     (one & ~two, left and not right), (~one | two, not left or right),
                                     (~(one | two), not left and not right), (~(one & two), not (left and right)),
                                     (one | ~one, True), (one & ~one, False), (~one & two | one & ~two, left != right)]:
                self.assertIs(expected, saying.is_met(row))

    def test_against_a_search(self):
        rng = random.Random(1)
        met = 0
        for _ in range(60):
            saying, meets = random_saying(rng, rng.randint(1, 5))
            for row in rng.sample(ROWS, 25):
                expected = meets(row)
                met += expected
                self.assertIs(expected, saying.is_met(row))
        self.assertTrue(300 < met < 1200, met)

    def test_rows_of_another_width(self):
        one, two = Saying(wished(("X", A))), Saying(wished((A, B)))
        for saying in [one, ~one, two, ~two, ~~one, one | ~one, ~(one & two)]:
            for row in [(), (A,), (A, A, A), [A, B, A, B]]:
                self.assertIs(False, saying.is_met(row))

    def test_lists(self):
        one, two, three = [wished(("X", A)) for _ in range(3)]
        first, second, third = Saying(one), Saying(two), Saying(three)
        for saying, expected in [(first, [one]), (~first, [one]), (first & second, [one, two]),
                                 (second | first, [two, one]), (first & (second | ~third), [one, two, three]),
                                 (~(third | first) & ~second, [three, one, two]), (first | first, [one, one]),
                                 (first & second & first & third & second, [one, two, one, three, two])]:
            self.assertIs(tuple, saying.lists.__class__)
            self.assertEqual([id(wishes) for wishes in expected], [id(wishes) for wishes in saying.lists])

    def test_operators_leave_their_sides(self):
        one, two = Saying(wished(("X", A))), Saying(wished(("Y", A)))
        both = one & two
        lists = [one.lists, two.lists, both.lists]
        (~both | one) & ~two
        self.assertEqual(lists, [one.lists, two.lists, both.lists])
        self.assertEqual([True, False, False], [saying.is_met((A, B)) for saying in (one, two, both)])
        self.assertIs(True, both.is_met((A, A)))

    def test_many_nots(self):
        saying = Saying(wished(("X", A)))
        for many in range(1, 3001):
            saying = ~saying
            if many > 2997:
                self.assertIs(many % 2 == 0, saying.is_met((A, B)))

    def test_sayings_differ(self):
        one = Saying(wished(("X", A)))
        self.assertIs(True, (one & Saying(wished(("Y", B), signature=Signature(SYMBOLS)))).is_met((A, B)))
        other = Signature(SYMBOLS[::-1])
        for wishes in [wished(asked=("Y", "X")), wished(asked=("X",)), wished(asked=("X", "Z")),
                       wished(asked=("X", "Y", "Z")), wished(signature=other)]:
            two = Saying(wishes)
            for left, right in [(one, two), (two, one), (~one, two), (one | one, ~two)]:
                self.raises(SayingsDiffer, {}, lambda: left & right)
                self.raises(SayingsDiffer, {}, lambda: left | right)
