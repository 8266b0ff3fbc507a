"""Point 51: worlds, what terms stand for in them, and which pairs hold."""

import random

from tests.helpers import SYMBOLS, Case, comb, random_term, tower
from tests.searches import counters_by_words, value_by_words
from twowaysigns.errors import BadTable, MissingValue
from twowaysigns.signatures import Signature
from twowaysigns.worlds import World

S = Signature(SYMBOLS)
A = ("a",)
B = ("b",)
# Of two things: a is 0, b is 1, f tells whether the two differ, g exchanges them, p is its first argument.
TWO = [[0], [1], [0, 1, 1, 0], [1, 0], [0, 0, 1, 1]]


def random_tables(rng, size):
    """Return random tables for the symbols, even ones for the two-way symbol."""
    tables = [[rng.randrange(size)], [rng.randrange(size)], [0] * size * size,
              [rng.randrange(size) for _ in range(size)], [rng.randrange(size) for _ in range(size * size)]]
    for x in range(size):
        for y in range(x + 1):
            tables[2][x * size + y] = tables[2][y * size + x] = rng.randrange(size)
    return tables


class WorldTest(Case):

    def test_fields(self):
        tables = [list(table) for table in TWO]
        for world in (World(S, 2, tables), World(signature=S, size=2, tables=tuple(tuple(row) for row in tables))):
            self.assertIs(S, world.signature)
            self.same(2, world.size)
            self.same(((0,), (1,), (0, 1, 1, 0), (1, 0), (0, 0, 1, 1)), world.tables)
        world = World(S, 2, tables)
        tables[3][0] = 0
        tables[4] = [0, 0, 0, 0]
        self.same(((0,), (1,), (0, 1, 1, 0), (1, 0), (0, 0, 1, 1)), world.tables)
        self.same((), World(Signature([]), 7, []).tables)

    def test_sizes(self):
        for size in (1, 3, 40):
            tables = [[size - 1], [0], [size // 2] * size ** 2, [0] * size, list(range(size)) * size]
            self.assertEqual(size, World(S, size, tables).size)

    def bad(self, index, tables, size=2):
        self.raises(BadTable, {"index": index}, World, S, size, tables)
        self.raises(BadTable, {"index": index}, World, S, size, tuple(tuple(table) for table in tables))

    def test_tables_of_another_length(self):
        for index, table in enumerate(TWO):
            for other in ([], table[1:], table + [0], table * 2):
                self.bad(index, TWO[:index] + [other] + TWO[index + 1:])
            self.bad(index, TWO[:index] + [[]] * (5 - index))
        self.bad(2, TWO, size=3)
        self.bad(0, [[2]] + TWO[1:])

    def test_numbers_that_are_no_things(self):
        for index, table in enumerate(TWO):
            for bad in (-1, 2, 10 ** 30, -10 ** 30):
                for place in range(len(table)):
                    other = table[:place] + [bad] + table[place + 1:]
                    self.bad(index, TWO[:index] + [other] + TWO[index + 1:])

    def test_unlike_numbers_for_a_two_way_symbol(self):
        self.bad(2, TWO[:2] + [[0, 1, 0, 0]] + TWO[3:])
        self.bad(2, TWO[:2] + [[0, 1, 0, 0]] + [[], []])
        self.bad(0, [[]] + TWO[1:2] + [[0, 1, 0, 0]] + TWO[3:])
        for x, y in [(0, 1), (0, 2), (1, 2)]:
            uneven = [0] * 9
            uneven[x * 3 + y] = 1
            rest = [[0, 0, 0], list(range(9))[:3] * 3]
            self.bad(2, [[0], [0], uneven] + rest, size=3)
            uneven[y * 3 + x] = 1
            World(S, 3, [[0], [0], uneven] + rest)
            # The table of p may tell any numbers: it is not two-way.
            World(S, 3, [[0], [0], [0] * 9, [0, 0, 0], [1 if k == x * 3 + y else 0 for k in range(9)]])


class ValueTest(Case):

    def test_values(self):
        world = World(S, 2, TWO)
        for term, expected in [(A, 0), (B, 1), ("X", 1), ("Y", 0), (("f", "X", A), 1), (("f", "X", B), 0),
                               (("g", "X"), 0), (("p", "X", "Y"), 1), (("p", "Y", "X"), 0),
                               (("g", ("f", ("p", "X", A), ("g", "Y"))), 1)]:
            for values in ([("X", 1), ("Y", 0)], (("Y", 0), ("Z", 1), ("X", 1))):
                self.same(expected, world.value(term, values))
                self.same(expected, world.value(term=term, values=values))
        self.same(0, world.value(A, []))
        self.same(1, world.value(("g", A), ()))

    def test_the_argument_on_the_left_counts_in_sizes(self):
        world = World(S, 3, [[1], [2], [0] * 9, [0] * 3, [0, 1, 2, 2, 0, 1, 1, 2, 0]])
        for x in range(3):
            for y in range(3):
                self.same((x * 2 + y) % 3, world.value(("p", "X", "Y"), [("X", x), ("Y", y)]))
        self.same(1, world.value(("p", A, B), ()))
        self.same(2, world.value(("p", B, A), ()))

    def test_missing_values(self):
        world = World(S, 2, TWO)
        term = ("f", ("p", "Z", "X"), ("f", "Y", "Z"))
        self.raises(MissingValue, {"variable": "Z"}, world.value, term, [])
        self.raises(MissingValue, {"variable": "Z"}, world.value, term, [("X", 0), ("Y", 0)])
        self.raises(MissingValue, {"variable": "X"}, world.value, term, [("Y", 0), ("Z", 0), ("X1", 0)])
        self.raises(MissingValue, {"variable": "Y"}, world.value, term, [("X", 0), ("Z", 0)])
        self.raises(MissingValue, {"variable": "X"}, world.value, term="X", values=())
        self.same(1, world.value(term, [("X", 0), ("Y", 1), ("Z", 1)]))

    def test_random_values(self):
        rng = random.Random(5101)
        for _ in range(200):
            size = rng.randint(1, 6)
            tables = random_tables(rng, size)
            world = World(S, size, tables)
            term = random_term(rng, rng.randint(1, 30))
            values = [(name, rng.randrange(size)) for name in ("Z", "X", "Y")]
            expected = value_by_words(SYMBOLS, size, tables, term, dict(values))
            self.same(expected, world.value(term, values))
            self.assertEqual([(name, values[k][1]) for k, name in enumerate(("Z", "X", "Y"))], values)

    def test_large_terms(self):
        world = World(S, 40, [[39], [1], [(x + y) % 40 for x in range(40) for y in range(40)],
                              [(x + 1) % 40 for x in range(40)], [x for x in range(40) for _ in range(40)]])
        self.same(18, world.value(tower(59, A), ()))
        self.same(30, world.value(comb("f", ["X"] * 30), [("X", 1)]))


class CounterTest(Case):

    def test_counters(self):
        world = World(S, 2, TWO)
        for pair, expected in [
                (("X", "X"), None), (("X", "Y"), (("X", 0), ("Y", 1))), (("X", A), (("X", 1),)),
                ((B, "X"), (("X", 0),)), ((A, B), ()), ((A, ("g", B)), None), ((("f", A, B), ("f", B, A)), None),
                ((("p", "X", "Y"), "X"), None), ((("p", "X", "Y"), "Y"), (("X", 0), ("Y", 1))),
                ((("f", "Y", "X2"), ("f", "X1", "Y")), (("Y", 0), ("X1", 0), ("X2", 1))),
                ((("f", ("f", "X", "Y"), "Z"), ("f", "X", ("f", "Y", "Z"))), None),
                ((("p", "Z", ("p", "Y", "X")), ("g", ("g", "Y"))), (("X", 0), ("Y", 0), ("Z", 1)))]:
            for keywords in (False, True):
                found = world.counter(pair=pair) if keywords else world.counter(pair)
                self.assertEqual(expected, found)
                if found is not None:
                    self.only_tuples(found)
                self.assertIs(expected is None, world.holds(pair=pair) if keywords else world.holds(pair))

    def test_random_counters(self):
        rng = random.Random(5102)
        counts = [0, 0]
        for _ in range(300):
            size = rng.randint(1, 4)
            tables = random_tables(rng, size)
            names = rng.choice([("X", "Y"), ("B", "A1", "A"), ("X", "Y", "Z", "A"), ()])
            pair = tuple(random_term(rng, rng.randint(1, 6), names) for _ in range(2))
            counters = counters_by_words(SYMBOLS, size, tables, pair)
            world = World(S, size, tables)
            counts[not counters] += 1
            self.assertEqual(counters[0] if counters else None, world.counter(pair))
            self.assertIs(not counters, world.holds(pair))
        self.assertGreater(min(counts), 30)

    def test_the_largest_numbers(self):
        world = World(S, 6, random_tables(random.Random(5103), 6))
        terms = [("f", ("f", "W", "X"), ("f", "Y", "Z")), ("f", ("f", "Z", "Y"), ("f", "X", "W"))]
        self.assertIs(True, world.holds(tuple(terms)))
        self.assertIsNone(world.counter(tuple(terms)))
        large = World(S, 40, [[0], [39], [0] * 1600, [0] * 40, [0] * 1600])
        self.same((), large.counter((("g", A), B)))
        self.assertIs(True, large.holds((("p", A, B), ("g", B))))

    def test_alike_terms_have_the_same_value(self):
        rng = random.Random(5104)
        for _ in range(50):
            world = World(S, 3, random_tables(rng, 3))
            self.assertIs(True, world.holds((("g", ("f", "X", ("f", "Y", A))), ("g", ("f", ("f", A, "Y"), "X")))))
