"""Points 36 to 39: parts of patterns, kinds of closed terms, closed kinds, and how many terms have a kind."""

import itertools
import random

from tests.helpers import (SYMBOLS, Case, comb, is_case_by_search, least_telling_by_search, occurrences, random_term,
                           size, sorted_terms, subsets)
from tests.test_closedterms import closed_by_search
from twowaysigns.closedterms import closed_terms, count_closed
from twowaysigns.covers import coverage
from twowaysigns.errors import BadKind, NotAPattern
from twowaysigns.kinds import are_closed_kinds, count_kinds, kind_of, kinds_of, pattern_parts
from twowaysigns.matching import is_case
from twowaysigns.signatures import Signature

S = Signature(SYMBOLS)
A = ("a",)
B = ("b",)
SIGNATURES = [SYMBOLS, SYMBOLS[::-1], [("a", 0, False), ("f", 2, True), ("g", 1, False)],
              [("f", 2, True), ("b", 0, False), ("a", 0, False)], [("p", 2, False), ("a", 0, False)]]
FEW = Signature(SIGNATURES[2])
NO_CONSTANT = Signature([("f", 2, True), ("g", 1, False)])


def random_pattern(rng, symbols, largest):
    """Return a random pattern."""
    count = [0]

    def renamed(term):
        if isinstance(term, str):
            count[0] += 1
            return f"X{count[0]}"
        return (term[0], *[renamed(part) for part in term[1:]])

    return renamed(random_term(rng, rng.randint(1, largest), ("X",), symbols))


def random_patterns(rng, symbols, largest=7):
    """Return a few random patterns."""
    return [random_pattern(rng, symbols, largest) for _ in range(rng.randint(0, 5))]


def parts_by_search(patterns, symbols):
    """Return the parts of patterns as DOC.md describes them."""
    found, waiting = {}, list(patterns)
    while waiting:
        part = waiting.pop()
        if not isinstance(part, str):
            found[least_telling_by_search((part,), symbols)[0]] = True
            waiting += part[1:]
    return tuple(sorted_terms(found, symbols))


def closed_by_words(symbols, parts, kinds):
    """Tell whether the kinds are closed, by the words of point 38."""
    def is_met(argument, kind):
        told = least_telling_by_search((argument,), symbols)[0]
        return isinstance(argument, str) or parts.index(told) in kind

    for name, arity, two_way in symbols:
        for arguments in itertools.product(kinds, repeat=arity):
            kind = ()
            for index, part in enumerate(parts):
                orders = [part[1:], part[:0:-1]] if two_way else [part[1:]]
                if part[0] == name and any(all(map(is_met, order, arguments)) for order in orders):
                    kind += (index,)
            if kind not in kinds:
                return False
    return True


def small_terms(symbols):
    """Return closed terms in the order by size, not too many, and the greatest of their sizes."""
    largest = 4 if len(symbols) > 3 else 6
    return [term for terms in closed_by_search(symbols, largest) for term in terms], largest


class PatternPartsTest(Case):

    def test_no_pattern_and_variables(self):
        self.same((), pattern_parts(S, []))
        self.same((), pattern_parts(S, ["X"]))
        self.same((), pattern_parts(signature=S, patterns=("X", "Y", "X")))

    def test_parts_in_order_each_once(self):
        self.same((A, ("f", "V1", A), ("g", "V1")), pattern_parts(S, [("f", A, "X"), ("g", "Y"), A]))
        self.same((B, ("f", "V1", ("g", B)), ("g", B)), pattern_parts(S, [("f", ("g", B), "X")]))

    def test_parts_that_are_alike_or_have_other_variables(self):
        self.same((A, ("f", "V1", A)), pattern_parts(S, [("f", A, "X"), ("f", "Y", A), ("f", "X", A)]))
        self.same((("f", "V1", "V2"), ("p", ("f", "V1", "V2"), ("f", "V3", "V4"))),
                  pattern_parts(S, [("p", ("f", "X", "Y"), ("f", "Z", "W"))]))
        self.same((("g", "V1"), ("p", "V1", ("g", "V2"))), pattern_parts(S, [("p", "V2", ("g", "V1"))]))

    def test_against_a_search(self):
        rng = random.Random(1)
        for _ in range(150):
            symbols = rng.choice(SIGNATURES)
            patterns = random_patterns(rng, symbols, 12)
            self.same(parts_by_search(patterns, symbols), pattern_parts(Signature(symbols), patterns))

    def test_not_a_pattern(self):
        bad = [("f", "X", "X"), ("p", ("g", "X"), ("f", A, "X")), comb("p", ["X", "Y", "Z", "Y"])]
        calls = [(pattern_parts, ()), (kind_of, (A,)), (kinds_of, ()), (are_closed_kinds, ([],)), (count_kinds, (3,)),
                 (coverage, ())]
        for function, more in calls:
            for term in bad:
                for index in range(4):
                    patterns = [A, "X", ("f", "X", "Y")]
                    patterns.insert(index, term)
                    self.raises(NotAPattern, {"index": index}, function, S, patterns, *more)
                    self.raises(NotAPattern, {"index": index}, function, S, tuple(patterns) + (bad[0],), *more)
                    self.raises(NotAPattern, {"index": index}, function, NO_CONSTANT, patterns, *more)


class KindsTest(Case):

    def test_parts_below_two_way_symbols(self):
        patterns = [("f", ("f", A, "X"), ("g", "Y"))]
        self.assertEqual((A, ("f", "V1", A), ("f", ("f", "V1", A), ("g", "V2")), ("g", "V1")), pattern_parts(S, patterns))
        for term, expected in [(A, (0,)), (B, ()), (("f", B, A), (1,)), (("f", A, A), (1,)), (("g", B), (3,)),
                               (("f", ("g", A), ("f", A, B)), (2,)), (("f", ("f", B, A), ("g", B)), (2,)),
                               (("f", ("g", A), A), (1,)), (("f", ("g", B), ("f", B, B)), ()),
                               (("f", ("f", A, ("g", A)), ("g", A)), (2,)), (("p", A, A), ())]:
            self.same(expected, kind_of(S, patterns, term))
            self.same(expected, kind_of(signature=S, patterns=tuple(patterns), term=term))

    def test_kind_of_against_a_search(self):
        rng = random.Random(2)
        for _ in range(40):
            symbols = rng.choice(SIGNATURES)
            signature = Signature(symbols)
            patterns = random_patterns(rng, symbols)
            parts = pattern_parts(signature, patterns)
            terms = [random_term(rng, rng.randint(1, 14), (), symbols) for _ in range(12)]
            for term in terms:
                expected = tuple(k for k, part in enumerate(parts) if is_case_by_search((term,), (part,), symbols))
                self.same(expected, kind_of(signature, patterns, term))

    def test_the_first_closed_term_of_each_kind(self):
        rng = random.Random(3)
        for _ in range(60):
            symbols = rng.choice(SIGNATURES)
            signature = Signature(symbols)
            patterns = random_patterns(rng, symbols)
            pairs = kinds_of(signature, patterns)
            self.only_tuples(pairs)
            terms, largest = small_terms(symbols)
            first = {}
            for term in terms:
                first.setdefault(kind_of(signature, patterns, term), term)
            self.assertEqual(list(first.items()), [pair for pair in pairs if size(pair[1]) <= largest])
            self.assertEqual(len(pairs), len({kind for kind, _ in pairs}))
            for kind, term in pairs:
                self.assertEqual(kind, kind_of(signature, patterns, term))
            self.assertEqual(sorted(size(term) for _, term in pairs), [size(term) for _, term in pairs])

    def test_order_by_size_of_the_examples(self):
        self.same((((), A),), kinds_of(S, []))
        self.same((((0,), A), ((), B), ((1,), ("g", A))), kinds_of(signature=S, patterns=(A, ("g", A))))
        self.same((((0,), A), ((), B), ((2,), ("g", A)), ((1,), ("f", A, ("g", A)))),
                  kinds_of(S, [("f", ("g", "X"), A)]))

    def test_examples_are_least_writings(self):
        self.same((((0,), A), ((), B), ((1, 2), ("f", A, A)), ((1,), ("f", A, B))),
                  kinds_of(S, [("f", A, A), ("f", "X", A)]))
        self.same((((0,), A), ((), ("g", A)), ((1, 2), ("f", A, A)), ((1,), ("f", A, ("g", A)))),
                  kinds_of(FEW, [("f", A, "X"), ("f", A, A)]))

    def test_examples_much_larger_than_the_patterns(self):
        signature = Signature([("a", 0, False), ("f", 2, True)])
        lists = [[("f", ("f", "X", "Y"), ("f", A, ("f", "Z", "W"))), ("f", ("f", "X", A), ("f", "Y", "Z")),
                  ("f", ("f", ("f", "X", ("f", "Y", A)), "Z"), "W")],
                 [("f", A, ("f", ("f", "X", A), A)), ("f", ("f", "X", "Y"), ("f", A, "Z")),
                  ("f", "X", ("f", ("f", ("f", "Y", ("f", A, "Z")), "W"), "V"))]]
        for patterns, largest in zip(lists, (63, 127)):
            pairs = kinds_of(signature, patterns)
            self.assertEqual(largest, size(pairs[-1][1]))
            parts = pattern_parts(signature, patterns)
            counts = [count_kinds(signature, patterns, many) for many in range(41)]
            for index, (kind, term) in enumerate(pairs):
                self.assertEqual(kind, tuple(k for k, part in enumerate(parts) if is_case(signature, (term,), (part,))))
                with_kind = [many for many in range(41) if counts[many][index] > 0]
                self.assertEqual([size(term)] if size(term) <= 40 else [], with_kind[:1])

    def test_no_kind_without_a_constant(self):
        for patterns in ([], ["X"], [("f", "X", ("g", "Y"))]):
            self.same((), kinds_of(NO_CONSTANT, patterns))
            self.same((), count_kinds(NO_CONSTANT, patterns, 5))
        self.same((), kinds_of(Signature([]), ["X"]))


class ClosedKindsTest(Case):

    def test_all_kinds_in_any_order(self):
        rng = random.Random(4)
        for _ in range(40):
            symbols = rng.choice(SIGNATURES)
            signature = Signature(symbols)
            patterns = random_patterns(rng, symbols)
            kinds = [kind for kind, _ in kinds_of(signature, patterns)]
            rng.shuffle(kinds)
            self.assertIs(True, are_closed_kinds(signature, patterns, kinds))
            self.assertIs(True, are_closed_kinds(signature, patterns, tuple(kinds) + (kinds[0],)))
            for left_out in kinds:
                rest = [kind for kind in kinds if kind != left_out]
                self.assertIs(False, are_closed_kinds(signature, patterns, rest + rest))

    def test_kinds_that_no_closed_term_has(self):
        patterns = [("f", A, "X"), ("g", ("g", "X"))]
        parts = pattern_parts(FEW, patterns)
        self.assertEqual((A, ("f", "V1", A), ("g", "V1"), ("g", ("g", "V1"))), parts)
        kinds = [kind for kind, _ in kinds_of(FEW, patterns)]
        self.assertEqual([(0,), (2,), (1,), (2, 3), ()], kinds)
        self.assertIs(True, are_closed_kinds(FEW, patterns, kinds + [(0, 1, 2, 3)]))
        self.assertIs(True, are_closed_kinds(FEW, patterns, [(3,), (0, 2)] + kinds))
        self.assertIs(False, are_closed_kinds(FEW, [("g", ("g", "X"))], [(), (0, 1)]))
        self.assertIs(True, are_closed_kinds(FEW, [("g", ("g", "X"))], [(), (0,), (1,), (0, 1)]))
        self.assertIs(False, are_closed_kinds(FEW, [("g", ("g", A))], [(0,), (1,), (), (0, 1)]))
        self.assertIs(True, are_closed_kinds(FEW, [("g", ("g", A))], [(0,), (1,), (2,), (), (1, 2), (0, 1), (0, 2)]))

    def test_against_the_words(self):
        rng = random.Random(8)
        answers = []
        for _ in range(150):
            symbols = rng.choice(SIGNATURES)
            signature = Signature(symbols)
            patterns = random_patterns(rng, symbols, 4)
            parts = parts_by_search(patterns, symbols)
            every = [kind for kind in subsets(range(len(parts)))] if len(parts) < 4 else [()]
            kinds = [kind for kind, _ in kinds_of(signature, patterns)]
            kinds += rng.sample(every, rng.randint(0, len(every)))
            if rng.random() < 0.3:
                kinds = rng.sample(kinds, len(kinds) - 1)
            answers.append(closed_by_words(symbols, parts, kinds))
            self.assertIs(answers[-1], are_closed_kinds(signature, patterns, kinds))
        self.assertTrue(30 < sum(answers) < 140, sum(answers))

    def test_no_kind(self):
        self.assertIs(False, are_closed_kinds(S, [A], []))
        self.assertIs(False, are_closed_kinds(S, [], ()))
        self.assertIs(True, are_closed_kinds(NO_CONSTANT, [("g", "X")], []))
        self.assertIs(True, are_closed_kinds(Signature([]), ["X"], []))
        self.assertIs(False, are_closed_kinds(NO_CONSTANT, [("g", "X")], [()]))
        self.assertIs(True, are_closed_kinds(signature=NO_CONSTANT, patterns=["X"], kinds=[()]))

    def test_bad_kind(self):
        patterns = [("f", A, "X"), ("g", "Y")]
        for bad in [(3,), (-1,), (0, 0), (1, 0), (0, 1, 1), (0, 2, 1), (0, 1, 2, 3), (-1, 0), (10 ** 30,), (0, -10 ** 30)]:
            for index in range(3):
                kinds = [(), (0, 1, 2)]
                kinds.insert(index, bad)
                self.raises(BadKind, {"index": index}, are_closed_kinds, S, patterns, kinds)
                self.raises(BadKind, {"index": index}, are_closed_kinds, S, patterns, tuple(kinds) + (bad, (9,)))
        self.raises(BadKind, {"index": 0}, are_closed_kinds, S, [], [(0,)])
        self.raises(NotAPattern, {"index": 1}, are_closed_kinds, S, [A, ("f", "X", "X")], [(7,)])


class CountKindsTest(Case):

    def test_against_closed_terms(self):
        rng = random.Random(5)
        for _ in range(40):
            symbols = rng.choice(SIGNATURES)
            signature = Signature(symbols)
            patterns = random_patterns(rng, symbols)
            kinds = [kind for kind, _ in kinds_of(signature, patterns)]
            for many in range(6):
                found = [kind_of(signature, patterns, term) for term in closed_terms(signature, many)]
                self.same(tuple(found.count(kind) for kind in kinds), count_kinds(signature, patterns, many))

    def test_sums_up_to_size_forty(self):
        rng = random.Random(6)
        for _ in range(12):
            symbols = rng.choice(SIGNATURES)
            signature = Signature(symbols)
            patterns = random_patterns(rng, symbols)
            for many in [0, 1, 17, 39, 40] + rng.sample(range(41), 3):
                counts = count_kinds(signature=signature, patterns=patterns, size=many)
                self.assertEqual(count_closed(signature, many), sum(counts))
                self.assertEqual(len(kinds_of(signature, patterns)), len(counts))

    def test_no_pattern(self):
        for many in range(41):
            self.same((count_closed(S, many),), count_kinds(S, [], many))


class RandomPatternsTest(Case):

    def test_that_they_are_patterns(self):
        rng = random.Random(7)
        for pattern in [random_pattern(rng, SYMBOLS, 12) for _ in range(50)]:
            self.assertEqual(len(occurrences(pattern)), len(set(occurrences(pattern))))
