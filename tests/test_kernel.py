"""Points 53 and 54: what the lines of derivations conclude."""

import random

from tests.helpers import SYMBOLS, Case, random_term, tower
from tests.searches import concluded_by_words, conclusions_by_words, counters_by_words
from tests.test_worlds import random_tables
from twowaysigns.errors import BadLine
from twowaysigns.kernel import conclusions
from twowaysigns.signatures import Signature

S = Signature(SYMBOLS)
A = ("a",)
B = ("b",)
AXIOMS = [(("g", "X"), "X"), (A, ("f", "X", "Y"))]
OTHER = [("c", 0, False), ("f", 1, False), ("g", 2, True), ("a", 0, False)]
START = [("axiom", 0), ("same", "X"), ("turn", "f", "X", "Y")]


def random_filling(rng):
    """Return a random filling, as it stands in a line."""
    return tuple((name, random_term(rng, rng.randint(1, 3))) for name in rng.sample(["X", "Y", "Z"], rng.randint(0, 3)))


def random_item(rng, many):
    """Return an item of one of the four kinds; a term is never taken where a filling may be due."""
    kind = rng.randint(0, 3)
    if kind == 0:
        return rng.randint(-1, many)
    if kind == 1:
        return rng.choice(["f", "g", "p", "a", "X", "Y", "c", "", "axiom", "x1", "f "])
    if kind == 2:
        return random_term(rng, rng.randint(1, 4), symbols=rng.choice([SYMBOLS, SYMBOLS, OTHER]))
    return random_filling(rng)


def random_line(rng, before):
    """Return a random line that often may stand behind these conclusions."""
    word = rng.choice(["axiom", "same", "turn", "back", "chain", "within", "fill", "fall"])
    index = rng.randint(0, max(0, len(before) - 1))
    if rng.random() < 0.3 and word != "fill":
        return (word, *[random_item(rng, len(before)) for _ in range(rng.randint(0, 4))])
    if word == "chain":
        fitting = [(i, j) for i, one in enumerate(before) for j, two in enumerate(before) if one[1] == two[0]]
        return ("chain", *rng.choice(fitting)) if fitting else ("chain", 0, 0)
    name, arity = rng.choice([("f", 2), ("g", 1), ("p", 2), ("a", 0), ("b", 1)])
    indexes = [rng.randint(0, max(0, len(before) - 1)) for _ in range(arity)]
    return {"axiom": ("axiom", rng.randint(0, 2)), "same": ("same", random_term(rng, rng.randint(1, 5))),
            "turn": ("turn", name, random_term(rng, 2), random_term(rng, 3)), "back": ("back", index),
            "within": ("within", name, *indexes), "fill": ("fill", index, random_filling(rng)),
            "fall": ("fall", index)}[word]


class ConclusionsTest(Case):

    def good(self, expected, lines, axioms=AXIOMS, signature=S):
        self.same(expected, conclusions(signature, axioms, lines))
        self.same(expected, conclusions(signature=signature, axioms=tuple(axioms), lines=tuple(lines)))
        self.assertEqual(expected, conclusions_by_words(axioms, lines, signature.symbols))

    def test_the_example(self):
        lines = [("turn", "f", "X", "Y"), ("axiom", 0), ("within", "p", 0, 1), ("fill", 1, (("X", A),)), ("back", 3)]
        expected = ((("f", "X", "Y"), ("f", "Y", "X")), (("g", "X"), "X"),
                    (("p", ("f", "X", "Y"), ("g", "X")), ("p", ("f", "Y", "X"), "X")), (("g", A), A), (A, ("g", A)))
        self.good(expected, lines, [(("g", "X"), "X")])

    def test_the_empty_derivation(self):
        self.good((), [])
        self.good((), [], [])

    def test_each_line(self):
        self.good((AXIOMS[1], AXIOMS[0]), [("axiom", 1), ("axiom", 0)])
        self.good((("X1", "X1"), (A, A)), [("same", "X1"), ("same", A)])
        self.good(((("f", A, A), ("f", A, A)),), [("turn", "f", A, A)])
        self.good((AXIOMS[0], AXIOMS[0][::-1], AXIOMS[0]), [("axiom", 0), ("back", 0), ("back", 1)])
        self.good((AXIOMS[0], ("X", ("g", "X")), ("X", "X"), (("g", "X"), ("g", "X"))),
                  [("axiom", 0), ("back", 0), ("chain", 1, 0), ("chain", 0, 1)])
        self.good(((A, A),), [("within", "a")])
        self.good((AXIOMS[0], (("g", ("g", "X")), ("g", "X")), (("f", ("g", "X"), ("g", "X")), ("f", "X", "X"))),
                  [("axiom", 0), ("within", "g", 0), ("within", "f", 0, 0)])
        self.good((AXIOMS[1], (A, ("f", "Y", "X")), (A, ("f", "X", "Y")), (A, ("f", ("g", "X"), B))),
                  [("axiom", 1), ("fill", 0, (("X", "Y"), ("Y", "X"))), ("fill", 0, ()),
                   ("fill", 0, (("Z", A), ("Y", B), ("X", ("g", "X"))))])

    def bad(self, index, lines, axioms=AXIOMS, signature=S):
        self.raises(BadLine, {"index": index}, conclusions, signature, axioms, lines)
        self.raises(BadLine, {"index": index}, conclusions, signature=signature, axioms=tuple(axioms),
                    lines=tuple(lines) + (("?",), ("axiom", 9)))

    def test_lines_that_are_none_of_the_seven(self):
        for line in [("drop", 0), ("",), ("Axiom", 0), ("axiom ", 0), ("bind", 0, 1), ("answer",), ("reduce", 0)]:
            self.bad(0, [line])
            self.bad(3, START + [line])

    def test_another_number_of_items(self):
        for line in [("axiom",), ("axiom", 0, 0), ("same",), ("same", "X", "X"), ("turn",), ("turn", "f"),
                     ("turn", "f", "X"), ("turn", "f", "X", "Y", "Z"), ("back",), ("back", 0, 0), ("chain",),
                     ("chain", 1), ("chain", 1, 1, 1), ("within",), ("within", "f"), ("within", "f", 0),
                     ("within", "f", 0, 0, 0), ("within", "g"), ("within", "g", 0, 0), ("within", "a", 0), ("fill",),
                     ("fill", 0), ("fill", 0, (), ())]:
            self.bad(3, START + [line])

    def test_indexes(self):
        for bad in (-1, -3, 3, 10 ** 30, -10 ** 30, "X", "f", "", A, (), (("X", A),), ("X", "Y")):
            for line in [("back", bad), ("chain", 1, bad), ("chain", bad, 1), ("within", "g", bad),
                         ("within", "f", 0, bad), ("within", "p", bad, 0), ("fill", bad, (("X", A),))]:
                self.bad(3, START + [line])
        for bad in (-1, -2, 2, 10 ** 30, "X", "axiom", A, (), (("X", A),)):
            self.bad(0, [("axiom", bad)])
        self.bad(0, [("axiom", 0)], [])
        # No line may name itself or a later one.
        for line in [("back", 0), ("chain", 0, 0), ("within", "g", 0), ("fill", 0, ())]:
            self.bad(0, [line, ("same", "X")])

    def test_names(self):
        for bad in ("g", "p", "a", "c", "X", "", "F", "f ", 0, 2, -1, A, ("f", "X", "Y"), (), (("X", A),)):
            self.bad(0, [("turn", bad, "X", "Y")])
        for bad in ("c", "X", "", "G", 0, 3, A, ("g", "X"), (), (("X", A),)):
            self.bad(3, START + [("within", bad, 0)])
            self.bad(3, START + [("within", bad)])

    def test_terms(self):
        for bad in (0, 7, -1, "", "x", "a", "X1234567", "XY", "f", (), ("f", "X"), ("a", "X"), ("c",), ("g", "x"),
                    ("g", "X", "Y"), ("f", "X", ("g",)), (("X", A),), (("X", "Y"), ("Y", "X")), ("X", "Y"), ("X",)):
            self.bad(0, [("same", bad)])
            self.bad(0, [("turn", "f", bad, "X")])
            self.bad(1, [("same", A), ("turn", "f", "X", bad)])

    def test_fillings(self):
        for bad in (0, -1, 5, "X", "", "f"):
            self.bad(3, START + [("fill", 0, bad)])

    def test_a_chain_needs_exactly_the_same_term(self):
        lines = [("same", ("f", "X", "Y")), ("same", ("f", "Y", "X")), ("turn", "f", "X", "Y")]
        self.bad(3, lines + [("chain", 0, 1)])
        self.bad(3, lines + [("chain", 2, 2)])
        self.bad(3, lines + [("chain", 1, 2)])
        self.same((("f", "X", "Y"), ("f", "Y", "X")), conclusions(S, (), lines + [("chain", 0, 2)])[3])

    def test_the_signature_decides(self):
        other = Signature(OTHER)
        self.good(((("g", "X", "Y"), ("g", "Y", "X")), (("f", ("c",)), ("f", ("c",)))),
                  [("turn", "g", "X", "Y"), ("same", ("f", ("c",)))], (), other)
        self.bad(0, [("turn", "f", "X", "Y")], (), other)
        self.bad(0, [("same", ("f", "X", "Y"))], (), other)
        self.bad(0, [("within", "b")], (), other)
        self.good((("X", "X"),), [("same", "X")], (), Signature([]))

    def test_random_lines(self):
        rng = random.Random(5301)
        counts = {"good": 0, "bad": 0}
        for _ in range(1500):
            axioms = [(random_term(rng, 3), random_term(rng, 3)) for _ in range(rng.randint(0, 3))]
            lines, before = [], []
            for _ in range(rng.randint(1, 12)):
                line = random_line(rng, before)
                pair = concluded_by_words(axioms, before, line)
                if pair is None:
                    counts["bad"] += 1
                    self.bad(len(lines), lines + [line], axioms)
                else:
                    counts["good"] += 1
                    lines.append(line)
                    before.append(pair)
            self.good(tuple(before), lines, axioms)
        self.assertGreater(min(counts.values()), 1000, counts)

    def test_what_is_passed_stays_as_it_was(self):
        axioms, lines = list(AXIOMS), [("axiom", 0), ("fill", 0, (("X", A),))]
        self.assertEqual(conclusions(S, axioms, lines), conclusions(S, axioms, lines))
        self.assertEqual((AXIOMS, [("axiom", 0), ("fill", 0, (("X", A),))]), (axioms, lines))

    def test_enormous_and_deep_conclusions(self):
        lines = [("same", "X")] + [("within", "p", k, k) for k in range(150)] + [("fill", 150, (("X", A),))]
        lines += [("chain", 151, 151), ("back", 152), ("same", A)]
        lines += [("within", "p", k, k) for k in range(154, 304)] + [("chain", 304, 151)]
        one, two = conclusions(S, (), lines)[-1]
        self.assertIs(one, two)
        for _ in range(150):
            one = one[1]
        self.assertEqual(A, one)
        lines = [("turn", "f", "X", "Y")] + [("within", "g", k) for k in range(3000)]
        one, two = conclusions(S, (), lines + [("fill", 3000, (("X", A), ("Y", B)))])[-1]
        for _ in range(3000):
            one, two = one[1], two[1]
        self.assertEqual((("f", A, B), ("f", B, A)), (one, two))


class WorldsTest(Case):

    def test_conclusions_hold_where_the_axioms_hold(self):
        rng = random.Random(5401)
        checked = 0
        while checked < 400:
            tables = random_tables(rng, 2)
            holding = [pair for pair in [(random_term(rng, rng.randint(1, 4)), random_term(rng, rng.randint(1, 4)))
                                         for _ in range(20)] if not counters_by_words(SYMBOLS, 2, tables, pair)]
            lines, before = [], []
            for _ in range(30):
                line = random_line(rng, before)
                pair = concluded_by_words(holding, before, line)
                if pair is not None and len(str(pair)) < 400:
                    lines.append(line)
                    before.append(pair)
            for pair in conclusions(S, holding, lines):
                checked += pair[0] != pair[1]
                self.assertEqual([], counters_by_words(SYMBOLS, 2, tables, pair))
        self.assertEqual(((tower(2), tower(2)),), conclusions(S, (), [("same", tower(2))]))
