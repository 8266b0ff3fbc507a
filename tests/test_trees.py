"""Points 20 to 23: states, lines, trees and answers."""

import itertools
import random

from tests.helpers import (SYMBOLS, Case, alike_by_words, all_terms, balanced, comb, is_case_by_search,
                           lines_that_fit, made_states, meeting_places, put_in, random_term, size)
from twowaysigns.errors import BadLine
from twowaysigns.matching import is_case
from twowaysigns.signatures import Signature
from twowaysigns.tellings import least_telling
from twowaysigns.trees import answers_of, tree_of
from twowaysigns.wishes import Wishes

S = Signature(SYMBOLS)
A = ("a",)
B = ("b",)
SMALL = all_terms(3, ["R", A, B], [("f", 2, True), ("g", 1, False)])


def random_tree(rng, wishes):
    """Return the lines and the answers of a tree whose lines are chosen at random."""
    states, lines, answers = [(list(wishes.pairs), list(wishes.asked))], [], []
    while states and len(lines) < 3000:
        state = states.pop()
        line = rng.choice(lines_that_fit(state[0]))
        lines.append(line)
        if line[0] == "answer":
            answers.append(tuple(state[1]))
        states += made_states(state, line)[::-1]
    return (lines, tuple(answers)) if not states else None


def random_wishes(rng, asked, names, largest=7, most=3):
    """Return random wishes."""
    pairs = [tuple(random_term(rng, rng.randint(1, largest), names) for _ in range(2))
             for _ in range(rng.randint(1, most))]
    return Wishes(S, asked, pairs)


def widest_of(answers):
    """Return the least tellings of those answers that are no case of a wider one."""
    return sorted({str(least_telling(S, row)) for row in answers
                   if all(is_case(S, other, row) or not is_case(S, row, other) for other in answers)})


class LinesTest(Case):
    """Each line, where it may be applied and where it may not."""

    def pairs(self, pairs, asked=("X", "Y")):
        return Wishes(S, list(asked), pairs)

    def refused(self, pairs, line, index=0, before=()):
        self.raises(BadLine, {"index": index}, answers_of, self.pairs(pairs), [*before, line, ("nothing",)])

    def test_the_example(self):
        wishes = self.pairs([(("f", "X", "Y"), ("f", A, B))])
        lines = [("turn", 0), ("bind", 1, 0), ("bind", 0, 0), ("answer",), ("bind", 0, 0), ("bind", 0, 0), ("answer",)]
        self.same(((A, B), (B, A)), answers_of(wishes, lines))
        self.same(((A, B), (B, A)), answers_of(wishes=wishes, lines=tuple(lines)))

    def test_drop(self):
        for one, two in [("X", "X"), (A, A), (("f", "X", A), ("f", A, "X")), (("p", "X", "Y"), ("p", "X", "Y"))]:
            self.same((("X", "Y"),), answers_of(self.pairs([(one, two)]), [("drop", 0), ("answer",)]))
        for one, two in [("X", "Y"), (A, B), (("f", "X", A), ("f", A, "Y")), (("p", "X", "Y"), ("p", "Y", "X"))]:
            self.refused([(one, two)], ("drop", 0))

    def test_split(self):
        wishes = self.pairs([("X", A), (("p", "X", ("g", "Y")), ("p", B, "Z")), ("Y", B)])
        lines = [("split", 1), ("bind", 3, 0), ("bind", 2, 1), ("bind", 1, 0), ("clash", 0)]
        self.same((), answers_of(wishes, lines))
        self.same((("X", "Y"),), answers_of(self.pairs([(A, A)]), [("split", 0), ("answer",)]))
        self.same(((A, "Y"),), answers_of(self.pairs([(("g", "X"), ("g", A))]),
                                         [("split", 0), ("bind", 0, 0), ("answer",)]))
        for pair in [(("f", "X", A), ("f", A, "X")), ("X", A), ("X", ("g", "Y")), (("g", "X"), ("p", "X", "Y")),
                     ("X", "Y"), ("X", "X"), (A, B)]:
            self.refused([pair], ("split", 0))
            self.refused([pair[::-1]], ("split", 0))

    def test_turn_makes_two_states(self):
        wishes = self.pairs([("W", A), (("f", "X", "Y"), ("f", "Z", ("g", "Z"))), ("W", A)])
        lines = [("turn", 1), ("bind", 2, 0), ("bind", 1, 0), ("bind", 0, 0), ("drop", 0), ("answer",),
                 ("bind", 1, 0), ("bind", 0, 0), ("clash", 0)]
        self.raises(BadLine, {"index": 8}, answers_of, wishes, lines)
        lines = lines[:6] + [("bind", 1, 0), ("bind", 1, 0), ("bind", 1, 0), ("drop", 0), ("answer",)]
        self.same((("Z", ("g", "Z")), (("g", "Z"), "Z")), answers_of(wishes, lines))
        lines = lines[:6] + [("bind", 2, 1), ("bind", 1, 0), ("bind", 0, 0), ("drop", 0), ("answer",)]
        self.same((("Z", ("g", "Z")), (("g", "Y"), "Y")), answers_of(wishes, lines))

    def test_turn_only_two_way_applications(self):
        for pair in [(("p", "X", A), ("p", A, "X")), ("X", A), ("X", ("f", "Y", "Y")), ("X", "Y"), ("X", "X"), (A, A),
                     (("f", "X", "Y"), ("p", "X", "Y")), (("g", "X"), ("g", "Y"))]:
            self.refused([pair], ("turn", 0))
            self.refused([pair[::-1]], ("turn", 0))

    def test_bind_replaces_in_all_pairs_and_in_the_row(self):
        wishes = self.pairs([(("g", "X"), "Z"), ("X", ("f", "Y", A)), (("p", "X", "X"), ("p", "W", "X"))])
        lines = [("bind", 1, 0), ("bind", 0, 1), ("split", 0), ("drop", 1), ("bind", 0, 1), ("answer",)]
        self.same(((("f", "Y", A), "Y"),), answers_of(wishes, lines))

    def test_bind_either_side(self):
        wishes = self.pairs([("X", "Y")])
        self.same((("Y", "Y"),), answers_of(wishes, [("bind", 0, 0), ("answer",)]))
        self.same((("X", "X"),), answers_of(wishes, [("bind", 0, 1), ("answer",)]))

    def test_bind_where_it_may_not_be_applied(self):
        for side in (-1, 2, 7, -2, 10 ** 30):
            self.refused([("X", "Y")], ("bind", 0, side))
        self.refused([("X", A)], ("bind", 0, 1))
        self.refused([(A, "X")], ("bind", 0, 0))
        for side in (0, 1):
            self.refused([("X", "X")], ("bind", 0, side))
            self.refused([("X", ("g", "X"))], ("bind", 0, side))
            self.refused([(("g", "X"), "X")], ("bind", 0, side))
            self.refused([(("g", "X"), ("g", "Y"))], ("bind", 0, side))

    def test_clash(self):
        for one, two in [(A, B), (("g", "X"), ("p", "X", "Y")), (("f", "X", "Y"), ("p", "X", "Y")), (A, ("g", A))]:
            self.same((), answers_of(self.pairs([("X", "Y"), (one, two)]), [("clash", 1)]))
        for one, two in [("X", A), (A, "X"), ("X", "Y"), (A, A), (("g", A), ("g", B)), (("f", A, A), ("f", B, B)),
                         ("X", ("g", "X"))]:
            self.refused([(one, two)], ("clash", 0))

    def test_loop(self):
        for one, two in [("X", ("g", "X")), (("f", A, ("g", "X")), "X")]:
            self.same((), answers_of(self.pairs([("X", "Y"), (one, two)]), [("loop", 1)]))
        for one, two in [("X", "X"), ("X", "Y"), ("X", A), ("X", ("g", "Y")), (("g", "X"), ("g", ("g", "X"))), (A, A)]:
            self.refused([(one, two)], ("loop", 0))
            self.refused([(two, one)], ("loop", 0))

    def test_answer_only_without_pending_pairs(self):
        self.same((("X", "Y"),), answers_of(self.pairs([]), [("answer",)]))
        self.refused([("X", "X")], ("answer",))
        self.refused([("X", "X"), ("Y", "Y")], ("answer",), 1, [("drop", 0)])

    def test_indexes_of_no_pair(self):
        pairs = [("X", "X"), ("Y", "Y")]
        for bad in (-1, -2, -3, 2, 3, 10 ** 30, -10 ** 30):
            for line in [("drop", bad), ("split", bad), ("turn", bad), ("clash", bad), ("loop", bad), ("bind", bad, 0)]:
                self.refused(pairs, line)
                self.refused([("X", "Y"), ("Y", "X")], line)
                self.refused([(A, B), (A, B)], line)
                self.refused([], line)
        for line in [("drop", 0), ("split", 0), ("turn", 0), ("clash", 0), ("loop", 0), ("bind", 0, 0)]:
            self.refused([], line)

    def test_lines_of_another_form(self):
        pairs = [("X", "X"), ("X", A), (("f", A, B), ("f", B, "X")), (("g", A), ("g", "X")), (A, B), ("X", ("g", "X"))]
        bad = [(), ("drop",), ("drop", 0, 0), ("bind", 1), ("bind", 1, 0, 0), ("bind",), ("turn",), ("turn", 2, 0),
               ("split",), ("split", 3, 3), ("clash",), ("clash", 4, 0), ("loop",), ("loop", 5, 1), ("answer", 0),
               ("answer", 0, 0), ("nothing",), ("nothing", 0), ("nothing", 1, 0), ("",), ("", 0), ("Drop", 0),
               ("drop ", 0), ("drop", 0) + (0,) * 50]
        for line in bad:
            self.refused(pairs, line)
        for line in bad + [("answer", 0)]:
            self.raises(BadLine, {"index": 0}, answers_of, self.pairs([]), [line])

    def test_the_first_bad_line_is_told(self):
        wishes = self.pairs([("X", "X"), ("Y", "Y")])
        self.raises(BadLine, {"index": 1}, answers_of, wishes, [("drop", 1), ("drop", 1), (), ("drop", 0)])
        self.raises(BadLine, {"index": 2}, answers_of, wishes, [("drop", 1), ("drop", 0), ("nothing",), ("answer",)])

    def test_superfluous_lines(self):
        wishes = self.pairs([])
        for line in [("answer",), (), ("nothing", 3), ("drop", 0)]:
            self.raises(BadLine, {"index": 1}, answers_of, wishes, [("answer",), line])
            self.raises(BadLine, {"index": 1}, answers_of, wishes, [("answer",), line, line])
        self.raises(BadLine, {"index": 1}, answers_of, self.pairs([(A, B), ("X", "X")]), [("clash", 0), ("drop", 0)])

    def test_states_that_are_left(self):
        wishes = self.pairs([(("f", "X", "Y"), ("f", A, B))])
        lines = [("turn", 0), ("bind", 1, 0), ("bind", 0, 0), ("answer",), ("bind", 0, 0), ("bind", 0, 0), ("answer",)]
        for many in range(len(lines)):
            self.raises(BadLine, {"index": many}, answers_of, wishes, lines[:many])
        self.raises(BadLine, {"index": 0}, answers_of, self.pairs([]), [])

    def test_the_state_that_began_to_wait_last(self):
        term, other = ("f", ("f", "X", "Y"), "Z"), ("f", ("f", A, B), ("g", A))
        wishes = Wishes(S, ["X", "Y", "Z"], [(term, other)])
        first = [("bind", 1, 0), ("bind", 0, 0)]
        lines = [("turn", 0), ("bind", 1, 0), ("turn", 0), *first, ("answer",), *first, ("answer",), ("clash", 0)]
        self.same(((A, B, ("g", A)), (B, A, ("g", A))), answers_of(wishes, lines))
        self.raises(BadLine, {"index": 3}, answers_of, wishes, lines[:3] + [("clash", 0)] + lines[3:])

    def test_lines_are_not_changed(self):
        lines = [("bind", 0, 0), ("answer",)]
        answers_of(self.pairs([("X", A)]), lines)
        self.assertEqual([("bind", 0, 0), ("answer",)], lines)


class RandomTreesTest(Case):

    def test_answers_exactly_as_the_lines_make_them(self):
        rng = random.Random(1)
        for _ in range(150):
            wishes = random_wishes(rng, ["X", "Y"], ("X", "Y", "Z", "W"))
            tree = random_tree(rng, wishes)
            if tree is not None:
                self.same(tree[1], answers_of(wishes, tree[0]))
                for line in tree[0]:
                    self.assertIn(line[0], ("drop", "split", "turn", "bind", "clash", "loop", "answer"))

    def test_lines_that_do_not_fit(self):
        rng = random.Random(2)
        words = [(word, k) for word in ("drop", "split", "turn", "clash", "loop") for k in range(-1, 4)]
        words += [("bind", k, side) for k in range(-1, 4) for side in range(-1, 3)] + [("answer",)]
        for _ in range(100):
            wishes = random_wishes(rng, ["X"], ("X", "Y"), 5)
            for line in words:
                if line in lines_that_fit(list(wishes.pairs)):
                    try:
                        answers_of(wishes, [line, ("nothing",)])
                    except BadLine as error:
                        self.assertEqual(1, error.index)
                else:
                    self.raises(BadLine, {"index": 0}, answers_of, wishes, [line])

    def test_two_trees_have_the_same_cases(self):
        rng = random.Random(3)
        compared = 0
        for _ in range(150):
            wishes = random_wishes(rng, ["X", "Y"], ("X", "Y", "Z"))
            expected = widest_of(answers_of(wishes, tree_of(wishes)))
            for tree in (random_tree(rng, wishes), random_tree(rng, wishes)):
                if tree is not None and len(tree[1]) < 20:
                    compared += 1
                    self.assertEqual(expected, widest_of(tree[1]))
        self.assertLess(200, compared)


class TreeTest(Case):

    def check_form(self, wishes):
        """Check that the tree is accepted and made of tuples; return its answers."""
        lines = tree_of(wishes)
        self.only_tuples(lines)
        self.assertEqual(lines, tree_of(wishes=wishes))
        answers = answers_of(wishes, lines)
        self.only_tuples(answers)
        return answers

    def test_wishes_without_pairs(self):
        for asked in (["X"], ["X", "Y", "Z", "X1"]):
            self.assertEqual((tuple(asked),), self.check_form(Wishes(S, asked, [])))

    def test_wishes_that_no_row_meets(self):
        for pairs in [[(A, B)], [("X", ("g", "X"))], [("X", A), ("X", B)], [(("f", "X", A), ("f", B, B))],
                      [(("f", "X", ("g", "Y")), ("f", "Y", ("g", "X"))), (("g", "X"), "Y")]]:
            self.assertEqual((), self.check_form(Wishes(S, ["X", "Y"], pairs)))

    def test_answers_meet_the_wishes_if_all_variables_are_asked(self):
        rng = random.Random(4)
        for _ in range(200):
            wishes = random_wishes(rng, ["X", "Y", "Z"], ("X", "Y", "Z"), 9)
            for row in self.check_form(wishes):
                table = dict(zip(wishes.asked, row))
                for one, two in wishes.pairs:
                    self.assertTrue(alike_by_words(put_in(one, table), put_in(two, table)))

    def test_rows_that_meet_are_cases_of_an_answer(self):
        rng = random.Random(5)
        met = 0
        for _ in range(60):
            wishes = random_wishes(rng, ["X", "Y"], ("X", "Y"), rng.randint(2, 7), 2)
            answers = self.check_form(wishes)
            for row in itertools.product(SMALL, repeat=2):
                table = dict(zip(wishes.asked, row))
                meets = all(alike_by_words(put_in(one, table), put_in(two, table)) for one, two in wishes.pairs)
                met += meets
                self.assertEqual(meets, any(is_case_by_search(row, answer) for answer in answers))
        self.assertLess(100, met)

    def test_rows_with_helpers(self):
        lists = [[("X", ("f", "Z", "W")), ("Y", ("f", "Z", "Z"))],
                 [(("f", "X", ("g", "Z")), ("f", "Y", ("g", "W")))],
                 [(("f", "X", "Z"), ("f", "Y", ("g", "W"))), ("W", "Z")],
                 [(("f", "X", "Y"), ("f", ("g", "Z"), ("f", "Z", "W")))],
                 [("Z", "W")], [("X", ("g", "Z")), ("Y", ("g", "Z"))], [(("g", "R"), "X"), ("X", "Y")]]
        parts = all_terms(3, ["R", "N", A, B], [("f", 2, True), ("g", 1, False)])
        rows = [(one, two) for one in SMALL for two in SMALL[::4]]
        for pairs in lists:
            wishes = Wishes(S, ["X", "Y"], pairs)
            answers = self.check_form(wishes)
            for row in rows:
                asked = dict(zip(wishes.asked, row))
                meets = any(all(alike_by_words(put_in(one, {**dict(zip(wishes.helpers, news)), **asked}),
                                               put_in(two, {**dict(zip(wishes.helpers, news)), **asked}))
                                for one, two in pairs)
                            for news in itertools.product(parts, repeat=len(wishes.helpers)))
                self.assertEqual(meets, any(is_case(S, row, answer) for answer in answers), (pairs, row))

    def test_helpers_do_not_change_the_lines(self):
        rng = random.Random(6)
        for _ in range(60):
            wishes = random_wishes(rng, ["X", "Y", "Z"], ("X", "Y", "Z"))
            some = Wishes(S, ["Z", "X"], wishes.pairs)
            whole = answers_of(wishes, tree_of(wishes))
            self.assertEqual(tuple((row[2], row[0]) for row in whole), answers_of(some, tree_of(wishes)))
            projected = [(row[2], row[0]) for row in whole]
            self.assertEqual(widest_of(projected), widest_of(answers_of(some, tree_of(some))))

    def test_wishes_at_the_bounds(self):
        many = [("X", ("f", f"A{k}", f"B{k}")) for k in range(10)]
        sides = [comb("p", [one for one, _ in many]), comb("p", [two for _, two in many])]
        chain = [(f"X{k}", ("f", f"X{k + 1}", f"X{k + 1}")) for k in range(5)]
        chain += [(f"Y{k}", ("f", f"Y{k + 1}", f"Y{k + 1}")) for k in range(6)]
        links = [comb("p", [one for one, _ in chain[:7]]), comb("p", [two for _, two in chain[:7]])]
        lists = [[tuple(sides)], [tuple(links), *chain[7:], ("X0", "Y0")],
                 [(balanced("f", [f"A{k}" for k in range(7)]), balanced("f", [f"B{k}" for k in range(7)]))],
                 [(comb("f", [f"A{k % 3}" for k in range(7)]), balanced("f", [f"B{k % 2}" for k in range(7)]))]]
        for pairs in lists:
            self.assertLessEqual(sum(size(side) for pair in pairs for side in pair), 60)
            self.assertLessEqual(sum(len(meeting_places(side)) for pair in pairs for side in pair), 12)
            answers = self.check_form(Wishes(S, ["X", "X0", "A0", "A1"], pairs))
            self.assertEqual(pairs == lists[3], answers == ())
