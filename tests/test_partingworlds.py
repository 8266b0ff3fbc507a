"""Point 52: worlds in which two terms have different values although given equations hold."""

import random

from tests.helpers import (SYMBOLS, Case, alike_by_words, at, balanced, comb, every_place, occurrences, random_term,
                           tower)
from tests.searches import counters_by_words, equal_by_search, put_at, things_said, value_by_words
from tests.test_orders import turned_at_random
from twowaysigns.errors import NotClosed
from twowaysigns.partingworlds import parting_world
from twowaysigns.signatures import Signature
from twowaysigns.worlds import World

S = Signature(SYMBOLS)
A = ("a",)
B = ("b",)
AB = ("f", A, B)


def random_problem(rng):
    """Return closed equations and two terms that are often equal by them, with at most 36 things said."""
    while True:
        largest = rng.choice([3, 4, 6])
        given = [tuple(random_term(rng, rng.randint(1, largest), ()) for _ in range(2))
                 for _ in range(rng.randint(0, 5))]
        one = random_term(rng, rng.randint(1, largest + 2), ("X", "Y"))
        two = random_term(rng, rng.randint(1, largest + 2), ("X", "Z"))
        if rng.random() < 0.6:
            two = one
            for _ in range(rng.randint(1, 5)):
                old, new = rng.choice(given)[::rng.choice([1, -1])] if given else (A, A)
                places = [place for place in every_place(two) if alike_by_words(at(two, place), old)]
                two = turned_at_random(rng, put_at(two, rng.choice(places), new) if places else two)
        if len(things_said([one, two, *[side for pair in given for side in pair]])) <= 36:
            return given, one, two


class PartingTest(Case):

    def parts(self, one, two, given=(), signature=S):
        """Check that a world is found that parts the terms, and return it."""
        found = parting_world(signature, one, two, given=given)
        self.assertIs(tuple, found.__class__)
        world, values = found
        self.assertIsInstance(world, World)
        self.only_tuples(values)
        said = things_said([one, two, *[side for pair in given for side in pair]], signature.symbols)
        self.assertLessEqual(world.size, len(said) + 1)
        World(signature, world.size, world.tables)
        names = sorted(set(occurrences(one) + occurrences(two)), key=lambda name: (len(name), name))
        self.assertEqual(names, [name for name, _ in values])
        for pair in given:
            self.assertEqual([], counters_by_words(signature.symbols, world.size, world.tables, pair))
            self.assertIs(True, world.holds(pair))
        things = [value_by_words(signature.symbols, world.size, world.tables, term, dict(values))
                  for term in (one, two)]
        self.assertNotEqual(things[0], things[1])
        self.assertEqual(things, [world.value(term, values) for term in (one, two)])
        return world

    def joins(self, one, two, given=()):
        self.assertIsNone(parting_world(S, one, two, given=given))

    def test_without_equations(self):
        for one, two in [("X", "Y"), ("X", A), (A, B), (("p", A, B), ("p", B, A)), (("g", "X"), ("g", "Y")),
                         (("f", "X", "X"), ("f", "X", "Y")), ("X", ("g", "X")), (tower(17), tower(16))]:
            self.parts(one, two)
            self.parts(two, one)
            self.assertIsNotNone(parting_world(S, one, two))
        for one, two in [("X", "X"), (A, A), (AB, ("f", B, A)), (("f", "X", "Y"), ("f", "Y", "X")),
                         (("g", ("f", "X", ("f", "Y", A))), ("g", ("f", ("f", A, "Y"), "X")))]:
            self.joins(one, two)
            self.assertIsNone(parting_world(S, one, two))

    def test_given_equations(self):
        self.joins(A, B, [(B, A)])
        self.joins(("g", A), ("g", B), [(A, B)])
        self.joins(("f", "X", A), ("f", B, "X"), [(A, B)])
        self.joins(("g", "X"), ("g", "X"), [(A, B)])
        self.joins(tower(1, A), A, [(tower(5, A), A), (tower(3, A), A)])
        self.joins(("p", A, ("g", B)), ("p", ("f", B, A), A), [(A, AB), (A, ("g", B))])
        self.parts(tower(1, A), A, [(tower(4, A), A), (tower(2, A), A)])
        self.parts("X", "Y", [(A, B)])
        self.parts("X", A, [(A, B), (B, AB)])
        self.parts(("p", A, B), ("p", B, A), [(("g", A), ("g", B))])
        self.parts(AB, A, [(("f", A, A), A), (("f", B, B), A)])

    def test_equations_that_are_not_closed(self):
        for bad in [("X", A), (A, "X"), (("g", "Y"), ("g", "Y")), (A, ("p", A, "Z"))]:
            for one, two in [(A, B), (A, A), ("X", "Y")]:
                self.raises(NotClosed, {"index": 0}, parting_world, S, one, two, given=[bad])
                self.raises(NotClosed, {"index": 1}, parting_world, S, one, two, given=[(A, B), bad, bad])
                self.raises(NotClosed, {"index": 2}, parting_world, S, one, two, given=((A, B), (A, A), bad, (B, A)))

    def test_by_name_and_only_by_name(self):
        given = [(A, B)]
        world, values = parting_world(signature=S, one="X", two=A, given=given)
        self.assertEqual((world.tables, values), (parting_world(S, "X", A, given=tuple(given))[0].tables, values))
        self.assertEqual([(A, B)], given)
        self.assertIs(S, world.signature)
        with self.assertRaises(TypeError):
            parting_world(S, A, B, given)

    def test_few_things_and_many(self):
        self.parts("X", "Y", signature=Signature([]))
        self.parts("X", "Y", signature=Signature([("a", 0, False)]))
        self.parts("X", ("a",), signature=Signature([("a", 0, False)]))
        given = [(tower(5, A), AB), (tower(3, B), ("p", A, B)), (("f", AB, AB), A)]
        self.parts(tower(9, "X"), tower(9, "Y"), given)
        self.parts(balanced("f", ["X", "Y", A, B, "X1", "Y1", ("g", A), ("g", B)]),
                   comb("p", ["X", "Y", A, B, "X1"]), given)

    def test_random_problems(self):
        rng = random.Random(5201)
        counts = [0, 0]
        for _ in range(400):
            given, one, two = random_problem(rng)
            is_equal = equal_by_search(given, one, two)
            counts[is_equal] += 1
            if is_equal:
                self.joins(one, two, given)
            else:
                self.parts(one, two, given)
        self.assertGreater(min(counts), 80, counts)

    def test_the_same_world_again(self):
        rng = random.Random(5202)
        for _ in range(20):
            given, one, two = random_problem(rng)
            found, again = [parting_world(S, one, two, given=given) for _ in range(2)]
            if found is not None:
                self.assertEqual((found[0].size, found[0].tables, found[1]), (again[0].size, again[0].tables, again[1]))
