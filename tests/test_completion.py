"""Points 47 to 50: lines that make rules of equations, replaying them, and completions."""

import random

from tests.helpers import SYMBOLS, Case, comb, least_telling_by_search, meeting_places, random_term, tower
from tests.searches import end_by_search, equal_by_search, made_by_words, meetings_by_search, steps_by_search
from tests.test_orders import ORDERS, compared_by_words
from twowaysigns.books import Book
from twowaysigns.completion import Completion, complete, replay
from twowaysigns.errors import BadLine
from twowaysigns.meetings import two_ends
from twowaysigns.orders import Order
from twowaysigns.rules import Rules, end_of
from twowaysigns.signatures import Signature

S = Signature(SYMBOLS)
A = ("a",)
B = ("b",)
ONES = Order(S, [1, 1, 1, 1, 1])
AB = ("f", A, B)
UNIT = (("f", "X", A), "X")
FOLD = (("g", ("g", "X")), "X")
WORDS = ["drop", "reduce", "orient", "meet", "retire", "shorten"]
LINES = [(word, k) for word in WORDS for k in range(-1, 5)]
# Each leads to other states: drops, two orientations, meetings, rules that are retired or shortened, and none at all.
STARTS = [
    [],
    [(AB, ("f", B, A)), (A, B), (B, A), ("X", "X")],
    [("X", ("g", ("g", "X"))), (("g", ("g", ("g", "X"))), A), (("g", A), B)],
    [UNIT, (("f", "X", "X"), A), (("f", "X", ("g", "X")), A)],
    [(("g", ("f", "X", "Y")), ("f", "Y", "X")), (("p", "X", "Y"), ("p", "Y", "X")), (("g", A), A)],
    [(("g", B), A), (B, A), (("g", "X"), "X")],
]


def random_equations(rng, variables=("X", "Y"), most=4):
    """Return random equations within the bounds of point 48."""
    largest = rng.randint(2, 6)
    found = []
    while len(found) < most:
        pair = tuple(random_term(rng, rng.randint(1, largest), variables) for _ in range(2))
        if all(len(meeting_places(side)) <= 3 for side in pair):
            found.append(pair)
    return found[:rng.randint(0, most)]


def compare_with(order):
    """Return the comparison of two terms by the order, by the sentences of point 41."""
    return lambda s, t: compared_by_words(order, s, t)


def lines_that_fit(state):
    """Return those of the lines that may be applied to the state, a pair of rules and equations."""
    return [line for line in LINES if made_by_words(compare_with(ONES), state, line) is not None]


def random_walk(rng, start):
    """Return random lines that may be applied one after the other, and the states before, between and behind them."""
    lines, states = [], [((), tuple(start))]
    while len(lines) < 8:
        fitting = lines_that_fit(states[-1])
        if not fitting:
            break
        words = sorted({line[0] for line in fitting})
        # Few states have a rule that can be retired.
        word = "retire" if "retire" in words and rng.random() < 0.7 else rng.choice(words)
        line = rng.choice([line for line in fitting if line[0] == word])
        if word == "meet" and len(states[-1][1]) > 4:
            break
        lines.append(line)
        states.append(made_by_words(compare_with(ONES), states[-1], line))
    return lines, states


def oriented(lines):
    """Return the number of the lines that are orient lines."""
    return sum(line[0] == "orient" for line in lines)


class ReplayTest(Case):

    def good(self, expected, lines, equations, order=ONES):
        self.same(expected, replay(order, equations, lines))
        self.same(expected, replay(order=order, equations=tuple(equations), lines=tuple(lines)))

    def bad(self, index, lines, equations, order=ONES):
        self.raises(BadLine, {"index": index}, replay, order, equations, lines)
        self.raises(BadLine, {"index": index}, replay, order, equations, tuple(lines) + (("drop", 99), ("meet",)))

    def test_no_line(self):
        self.good(((), ()), [], [])
        self.good(((), (UNIT, FOLD[::-1])), [], [UNIT, FOLD[::-1]])

    def test_drop(self):
        equations = [(A, B), (AB, ("f", B, A)), ("X", "X")]
        self.good(((), (equations[0], equations[2])), [("drop", 1)], equations)
        self.good(((), (equations[0],)), [("drop", 2), ("drop", 1)], equations)
        self.bad(0, [("drop", 0)], equations)
        self.bad(1, [("drop", 2), ("drop", 2)], equations)
        self.bad(0, [("drop", 0)], [(("p", A, B), ("p", B, A))])

    def test_reduce(self):
        equations = [UNIT, (("f", A, ("f", B, A)), ("f", B, A)), (("f", B, A), ("p", ("f", B, A), B))]
        rules = (UNIT,)
        self.good((rules, (equations[2], equations[1])[::-1]), [("orient", 0)], equations)
        self.good((rules, ((B, B), equations[2])), [("orient", 0), ("reduce", 0)], equations)
        self.good((rules, (equations[1], (B, ("p", B, B)))), [("orient", 0), ("reduce", 1)], equations)
        # Without a step, too, the sides become least writings.
        self.good(((), (equations[0], equations[1], (AB, ("p", AB, B)))), [("reduce", 2)], equations)
        self.good(((), (equations[0], (("f", A, AB), AB), equations[2])), [("reduce", 1)], equations)
        self.bad(0, [("reduce", 3)], equations)
        self.bad(0, [("reduce", -1)], equations)
        self.bad(0, [("reduce", 0)], [])

    def test_orient(self):
        self.good(((UNIT,), ()), [("orient", 0)], [UNIT])
        self.good(((UNIT,), ()), [("orient", 0)], [UNIT[::-1]])
        self.good(((FOLD, (B, A)), ((A, A),)), [("orient", 1), ("orient", 0)], [(A, B), FOLD[::-1], (A, A)])
        self.bad(0, [("orient", 0)], [("X", "Y")])
        self.bad(0, [("orient", 0)], [(AB, ("f", B, A))])
        self.bad(0, [("orient", 1)], [UNIT])
        self.bad(0, [("orient", -1)], [UNIT])

    def test_orient_is_refused_if_a_side_has_a_step(self):
        equations = [UNIT, (("f", B, A), ("g", B)), (("g", ("g", B)), ("f", A, B))]
        self.bad(1, [("orient", 0), ("orient", 0)], equations)
        self.bad(1, [("orient", 0), ("orient", 1)], equations)
        self.good(((UNIT, (("g", B), B)), (equations[2],)), [("orient", 0), ("reduce", 0), ("orient", 0)], equations)
        self.good(((equations[1],), (UNIT, equations[2])), [("orient", 1)], equations)

    def test_meet(self):
        equations = [(("f", "X", "X"), A), (("f", "X", B), "X")]
        lines = [("orient", 0), ("orient", 0), ("meet", 0)]
        self.good((tuple(equations), ((A, B),)), lines, equations)
        self.good((tuple(equations), ((A, B), (B, A))), lines + [("meet", 1)], equations)
        self.good((tuple(equations), ((B, A), (A, B), (B, A))), lines[:2] + [("meet", 1), ("meet", 0), ("meet", 1)],
                  equations)
        self.bad(2, lines[:2] + [("meet", 2)], equations)
        self.bad(2, lines[:2] + [("meet", -1)], equations)
        self.bad(1, lines[:1] + [("meet", 0)], equations)
        self.bad(0, [("meet", 0)], [])

    def test_retire(self):
        equations = [(("g", ("g", "X")), "X"), (("g", "X"), "X"), (("g", A), B)]
        self.good(((equations[1],), (equations[2], equations[0])), [("orient", 0), ("orient", 0), ("retire", 0)],
                  equations)
        self.bad(2, [("orient", 0), ("orient", 0), ("retire", 1)], equations)
        self.bad(1, [("orient", 0), ("retire", 0)], equations)
        self.bad(2, [("orient", 0), ("orient", 0), ("retire", 2)], equations)
        self.bad(2, [("orient", 0), ("orient", 0), ("retire", -1)], equations)
        self.bad(0, [("retire", 0)], [])
        # Not its own step counts, and a step below the top does.
        self.bad(1, [("orient", 0), ("retire", 0)], [(("f", "X", A), "X")])
        self.good((((B, A),), ((("g", B), A),)), [("orient", 0), ("orient", 0), ("retire", 0)],
                  [(("g", B), A), (B, A)])

    def test_shorten(self):
        equations = [(("p", "X", ("g", "Y")), ("g", ("f", "X", A))), UNIT]
        expected = ((equations[0][0], ("g", "X")), UNIT)
        lines = [("orient", 0), ("orient", 0)]
        self.good((expected, ()), lines + [("shorten", 0)], equations)
        self.good((expected, ()), lines + [("shorten", 0), ("shorten", 1), ("shorten", 0)], equations)
        self.good((((equations[0][0], ("g", ("f", "X", A))),), (UNIT,)), [("orient", 0), ("shorten", 0)], equations)
        self.good((((("g", AB), AB),), ()), [("orient", 0), ("shorten", 0)], [(("g", AB), ("f", B, A))])
        self.bad(2, lines + [("shorten", 2)], equations)
        self.bad(2, lines + [("shorten", -1)], equations)
        self.bad(0, [("shorten", 0)], [UNIT])

    def test_lines_that_are_none_of_the_six(self):
        for line in [("drop",), ("drop", 0, 0), ("",), ("", 0), ("Drop", 0), ("drop ", 0), ("turn", 0), ("back", 0),
                     ("meet",), ("reduce", 0, 0), ("reduce", 0, 1, 2), ("orient", 1, 0), ("shorten",), ("answer",)]:
            self.bad(0, [line], [("X", "X"), UNIT])
            self.bad(1, [("drop", 0), line], [("X", "X"), UNIT])

    def test_all_lines_in_all_states(self):
        rng = random.Random(4801)
        made = {word: 0 for word in WORDS}
        for start in STARTS * 4:
            lines, states = random_walk(rng, start)
            for many, state in enumerate(states):
                self.same(state, replay(ONES, start, lines[:many]))
                fitting = lines_that_fit(state)
                for line in rng.sample(LINES, 6):
                    if line not in fitting:
                        self.bad(many, lines[:many] + [line], start)
            for word, _ in lines:
                made[word] += 1
        self.assertGreater(min(made.values()), 2, made)

    def test_what_is_passed_stays_as_it_was(self):
        equations, lines = [UNIT, (A, B)], [("orient", 0), ("orient", 0)]
        replay(ONES, equations, lines)
        complete(ONES, equations, limit=2)
        self.assertEqual(([UNIT, (A, B)], [("orient", 0), ("orient", 0)]), (equations, lines))


class CompletionCase(Case):
    """What every completion must have."""

    def completed(self, equations, limit=8, order=ONES):
        """Return the completion after it was checked by the sentences of point 49."""
        found = complete(order, equations, limit=limit)
        self.assertIsInstance(found, Completion)
        self.assertIsInstance(found.rules, Rules)
        self.assertIs(order, found.rules.order)
        self.only_tuples((found.lines, found.left, found.rules.pairs))
        self.assertLessEqual(oriented(found.lines), limit)
        self.same((found.rules.pairs, found.left), replay(order, equations, found.lines))
        state = ((), tuple(equations))
        for line in found.lines:
            state = made_by_words(compare_with(order), state, line)
            self.assertIsNotNone(state)
        self.assertEqual((found.rules.pairs, found.left), state)
        {"complete": self.is_complete, "stuck": self.is_stuck, "limit": self.is_at_limit}[found.status](found, limit)
        return found

    def is_complete(self, found, limit):
        pairs = found.rules.pairs
        self.same((), found.left)
        for index, (left, right) in enumerate(pairs):
            self.same((), steps_by_search(pairs, right))
            self.same((), steps_by_search(pairs[:index] + pairs[index + 1:], left))
        for meeting in meetings_by_search(pairs):
            self.assertEqual(end_by_search(pairs, meeting[4]), end_by_search(pairs, meeting[5]))
        self.assertIsNone(two_ends(found.rules))

    def is_stuck(self, found, limit):
        pairs = found.rules.pairs
        self.assertNotEqual((), found.left)
        for one, two in found.left:
            self.same((), steps_by_search(pairs, one) + steps_by_search(pairs, two))
            self.assertEqual("apart", compared_by_words(found.rules.order, one, two))
        told = {least_telling_by_search(equation) for equation in found.left}
        for meeting in meetings_by_search(pairs):
            ends = tuple(end_by_search(pairs, side) for side in meeting[4:])
            if ends[0] != ends[1]:
                self.assertTrue(told & {least_telling_by_search(ends), least_telling_by_search(ends[::-1])})

    def is_at_limit(self, found, limit):
        pairs = found.rules.pairs
        self.assertEqual(limit, oriented(found.lines))
        self.assertTrue(any(compared_by_words(found.rules.order, *equation) in ("greater", "less")
                            and not any(steps_by_search(pairs, side) for side in equation)
                            for equation in found.left))


class CompleteTest(CompletionCase):

    def test_no_equation(self):
        for equations in ([], (), [("X", "X")], [(AB, ("f", B, A)), (A, A)]):
            found = self.completed(equations, 1)
            self.assertEqual(("complete", ()), (found.status, found.rules.pairs))
        self.same((), self.completed([], 1).lines)

    def test_complete(self):
        for equations, rules in [
                ([UNIT], [UNIT]), ([UNIT[::-1]], [UNIT]), ([(A, B)], [(B, A)]),
                ([(("f", "X", "X"), A), (("f", "X", B), "X")], [(B, A), (("f", "X", "X"), A), UNIT]),
                ([("X", "Y")], None), ([FOLD, (("g", ("g", ("g", "X"))), "X")], [(("g", "X"), "X")]),
                ([(("g", ("f", "X", "Y")), ("f", "X", "Y")), UNIT], [(("g", "X"), "X"), UNIT])]:
            found = self.completed(equations)
            if rules is None:
                self.assertEqual("stuck", found.status)
            else:
                self.assertEqual("complete", found.status)
                self.assertEqual(Book(S, 2, rules), Book(S, 2, found.rules.pairs))

    def test_rules_that_are_shortened_or_retired(self):
        for word, equations, rules in [
                ("shorten", [(("g", "X"), A), (B, ("g", "X"))], [(("g", "X"), A), (B, A)]),
                ("retire", [(("g", B), A), (("g", B), B)], [(B, A), (("g", A), A)])]:
            found = self.completed(equations)
            self.assertIn(word, [line[0] for line in found.lines])
            self.assertEqual("complete", found.status)
            self.assertEqual(Book(S, 2, rules), Book(S, 2, found.rules.pairs))

    def test_stuck(self):
        swapped = (("p", "X", "Y"), ("p", "Y", "X"))
        sides = (("f", "X", ("f", "Y", "Z")), ("f", ("f", "X", "Y"), "Z"))
        for equations in ([swapped], [sides], [swapped, sides], [swapped, UNIT], [(("g", "X"), ("g", "Y"))]):
            for limit in (1, 8):
                self.assertEqual("stuck", self.completed(equations, limit).status)
        found = self.completed([swapped, UNIT, (A, B)])
        self.assertEqual((swapped,), found.left)
        self.assertEqual(Book(S, 2, [UNIT, (B, A)]), Book(S, 2, found.rules.pairs))

    def test_meetings_that_leave_new_equations(self):
        equations = [(("f", "X", "Y"), ("g", "X")), (("g", ("g", "X")), "X")]
        found = self.completed(equations)
        self.assertEqual("stuck", found.status)
        self.assertIn("meet", [word for word, _ in found.lines])

    def test_limit(self):
        equations = [(tower(3, A), A), (tower(2, B), B), (("p", A, B), A)]
        for limit in (1, 2):
            self.assertEqual("limit", self.completed(equations, limit).status)
        for limit in (3, 4, 8):
            self.assertEqual("complete", self.completed(equations, limit).status)
        growing = [(("p", ("g", "X"), "X"), A), (("g", ("p", "X", "Y")), ("p", "X", ("g", "Y")))]
        for limit in (1, 3, 8):
            self.assertEqual("limit", self.completed(growing, limit).status)

    def test_a_meeting_may_be_what_the_limit_leaves(self):
        equations = [(("f", "X", "X"), A), (("f", "X", B), "X")]
        statuses = [self.completed(equations, limit).status for limit in (1, 2, 3, 4, 5)]
        self.assertEqual("limit", statuses[0])
        self.assertEqual("complete", statuses[-1])

    def test_by_place_and_by_name(self):
        found = complete(ONES, [UNIT, FOLD], limit=2)
        again = complete(order=ONES, equations=(UNIT, FOLD), limit=2)
        self.assertEqual((found.status, found.lines, found.left, found.rules.pairs),
                         (again.status, again.lines, again.left, again.rules.pairs))
        with self.assertRaises(TypeError):
            complete(ONES, [UNIT], 2)

    def test_random_equations(self):
        rng = random.Random(4901)
        counts = {"complete": 0, "stuck": 0, "limit": 0}
        for _ in range(90):
            order = rng.choice(ORDERS)
            limit = rng.randint(1, 4)
            counts[self.completed(random_equations(rng, most=3), limit, order).status] += 1
        self.assertGreater(min(counts.values()), 5, counts)

    def test_no_line_changes_which_closed_terms_are_equal(self):
        rng = random.Random(4902)
        for _ in range(40):
            equations = random_equations(rng, ())
            found = complete(rng.choice(ORDERS), equations, limit=rng.randint(1, 8))
            for _ in range(8):
                one, two = random_term(rng, rng.randint(1, 5), ()), random_term(rng, rng.randint(1, 5), ())
                self.assertEqual(equal_by_search(equations, one, two),
                                 equal_by_search(found.rules.pairs + found.left, one, two))


class CompleteCompletionTest(CompletionCase):

    def test_closed_equations_are_never_stuck(self):
        rng = random.Random(5001)
        for _ in range(60):
            found = self.completed(random_equations(rng, (), 5), rng.choice([1, 3, 8]), rng.choice(ORDERS))
            self.assertIn(found.status, ("complete", "limit"))

    def test_equal_just_if_the_ends_are_equal(self):
        rng = random.Random(5002)
        counts = [0, 0]
        for _ in range(120):
            equations = random_equations(rng, (), 5)
            found = complete(rng.choice(ORDERS), equations, limit=8)
            self.assertEqual("complete", found.status)
            sides = [side for pair in equations for side in pair]
            for _ in range(10):
                one, two = [rng.choice(sides) if sides and rng.random() < 0.4 else
                            random_term(rng, rng.randint(1, 6), ("X",)) for _ in range(2)]
                is_equal = equal_by_search(equations, one, two)
                counts[is_equal] += 1
                self.assertEqual(is_equal, end_of(found.rules, one) == end_of(found.rules, two))
        self.assertGreater(min(counts), 150, counts)

    def test_the_books_of_two_completions_are_equal(self):
        rng = random.Random(5003)
        many = 0
        for _ in range(60):
            order = rng.choice(ORDERS)
            equations = random_equations(rng, rng.choice([(), ("X",), ("X", "Y")]), 3)
            others = [pair[::rng.choice([1, -1])] for pair in rng.sample(equations, len(equations))]
            one, two = complete(order, equations, limit=6), complete(order, others + others[:1], limit=8)
            if one.status == two.status == "complete":
                many += 1
                self.assertEqual(Book(S, 2, one.rules.pairs), Book(S, 2, two.rules.pairs))
        self.assertGreater(many, 20)

    def test_terms_equal_by_equations_with_variables(self):
        found = self.completed([UNIT, (("f", ("g", "X"), "X"), A)])
        self.assertEqual("complete", found.status)
        self.assertEqual(A, end_of(found.rules, ("g", A)))
        self.assertEqual(end_of(found.rules, comb("f", ["Y", A, ("g", A), A])), "Y")
        self.assertNotEqual(end_of(found.rules, ("g", "X")), end_of(found.rules, ("g", "Y")))
