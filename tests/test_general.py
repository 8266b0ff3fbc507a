"""Points 2, 3 and 4: what holds for every function: sequences, names of parameters, the same answers again."""

import copy

from tests.helpers import SYMBOLS, Case
from twowaysigns.above import nearest_above
from twowaysigns.books import Book
from twowaysigns.closedrows import closed_row
from twowaysigns.closedterms import closed_terms, count_closed
from twowaysigns.completion import Completion, complete, replay
from twowaysigns.covers import Coverage, coverage
from twowaysigns.derivedrules import derive_closed, derive_completion
from twowaysigns.deriving import derive_alike, derive_end
from twowaysigns.desks import Desk, Trial, perform, perform_within
from twowaysigns.fillings import composed, fill_row, fill_term
from twowaysigns.kernel import conclusions
from twowaysigns.kinds import are_closed_kinds, count_kinds, kind_of, kinds_of, pattern_parts
from twowaysigns.layers import Layers, parting
from twowaysigns.matching import is_case, matches_of
from twowaysigns.meetings import meetings_of, two_ends
from twowaysigns.notes import format_wishes, parse_wishes
from twowaysigns.orders import Order
from twowaysigns.partingworlds import parting_world
from twowaysigns.rules import Rules, end_of, run_of, steps_of
from twowaysigns.sayings import Saying
from twowaysigns.shelves import Shelf
from twowaysigns.sides import are_alike, even_places, least_writing, turned, two_way_places
from twowaysigns.signatures import Signature
from twowaysigns.solving import clashes, meets, widest
from twowaysigns.tellings import least_telling
from twowaysigns.terms import (check_term, part_at, places_of, replaced_at, row_order, row_variables, size_of,
                               term_order, variables_of)
from twowaysigns.texts import format_term, parse_term
from twowaysigns.trees import answers_of, tree_of
from twowaysigns.turnings import count_turnings, own_turnings, turnings_of
from twowaysigns.wishes import Wishes
from twowaysigns.worlds import World

S = Signature(SYMBOLS)
TERM = ("f", ("f", "Y", "X"), ("f", "X", ("g", ("a",))))
ROW = [TERM, "X"]
FILLING = [("Y", ("a",)), ("X", "Y"), ("N", "X")]
WISHES = Wishes(S, ["X", "Y"], [(TERM, ("f", ("f", "Z", "Z"), ("f", ("b",), ("g", "W"))))])
BOOK = Book(S, 2, [ROW])
SAYING = ~Saying(WISHES)
LAYERS = Layers.of(SAYING)
PATTERNS = ["X", ("f", ("a",), ("g", "Y")), ("g", "X")]
ORDER = Order(S, [1, 1, 1, 1, 1])
PAIRS = [(("f", ("g", "X"), "Y"), ("g", "X")), (("f", "X", "X"), ("a",))]
RULES = Rules(ORDER, PAIRS)
# No call below leaves a deed on it.
DESK = Desk(S, ["X", "Y"])
WORLD = World(S, 2, [[0], [1], [0, 1, 1, 0], [1, 0], [0, 0, 1, 1]])
CALLS = [
    (check_term, {"signature": S, "value": TERM}),
    (size_of, {"term": TERM}),
    (variables_of, {"term": TERM}),
    (row_variables, {"row": ROW}),
    (places_of, {"term": TERM}),
    (part_at, {"term": TERM, "place": (1, 1)}),
    (replaced_at, {"term": TERM, "place": (1, 1), "new": "Z"}),
    (term_order, {"signature": S, "term": TERM}),
    (row_order, {"signature": S, "row": ROW}),
    (turned, {"signature": S, "term": TERM, "places": [(1,), ()]}),
    (least_writing, {"signature": S, "term": TERM}),
    (are_alike, {"signature": S, "one": TERM, "two": ("f", TERM[2], TERM[1])}),
    (two_way_places, {"signature": S, "term": TERM}),
    (even_places, {"signature": S, "term": TERM}),
    (count_turnings, {"signature": S, "term": TERM}),
    (turnings_of, {"signature": S, "term": TERM}),
    (own_turnings, {"signature": S, "term": TERM}),
    (fill_term, {"term": TERM, "filling": FILLING}),
    (fill_row, {"row": ROW, "filling": FILLING}),
    (composed, {"one": FILLING, "two": FILLING[::-1]}),
    (matches_of, {"signature": S, "pattern": ["X", "Y"], "row": ROW}),
    (is_case, {"signature": S, "row": ROW, "pattern": ["X", "Y"]}),
    (least_telling, {"signature": S, "row": ROW}),
    (tree_of, {"wishes": WISHES}),
    (answers_of, {"wishes": WISHES, "lines": list(tree_of(WISHES))}),
    (Book, {"signature": S, "width": 2, "rows": [ROW, ["X", "Y"], ("Y", ("a",))]}),
    (Book.nothing, {"signature": S, "width": 2}),
    (Book.everything, {"signature": S, "width": 2}),
    (BOOK.within, {"other": BOOK}),
    (widest, {"wishes": WISHES}),
    (meets, {"wishes": WISHES, "row": ROW}),
    (clashes, {"wishes": Wishes(S, ["X"], [("X", ("a",)), ("X", ("b",))])}),
    (SAYING.is_met, {"row": ROW}),
    (Layers, {"signature": S, "width": 2, "books": [BOOK, BOOK | Book(S, 2, [("X", "X")])]}),
    (Layers.of, {"saying": SAYING}),
    (LAYERS.within, {"other": LAYERS}),
    (parting, {"one": LAYERS, "two": ~LAYERS}),
    (nearest_above, {"signature": S, "rows": [ROW, ["X", ("a",)], (("f", "X", TERM), "X")]}),
    (closed_terms, {"signature": S, "size": 4}),
    (count_closed, {"signature": S, "size": 50}),
    (closed_row, {"saying": Saying(Wishes(S, ["X"], [("X", ("g", ("a",)))]))}),
    (pattern_parts, {"signature": S, "patterns": PATTERNS}),
    (kind_of, {"signature": S, "patterns": PATTERNS, "term": ("f", ("g", ("b",)), ("a",))}),
    (kinds_of, {"signature": S, "patterns": PATTERNS}),
    (are_closed_kinds, {"signature": S, "patterns": PATTERNS, "kinds": [kind for kind, _ in kinds_of(S, PATTERNS)]}),
    (count_kinds, {"signature": S, "patterns": PATTERNS, "size": 9}),
    (coverage, {"signature": S, "patterns": PATTERNS}),
    (Order, {"signature": S, "weights": [1, 2, 3, 4, 5]}),
    (ORDER.weight, {"term": TERM}),
    (ORDER.compare, {"s": TERM, "t": "X"}),
    (Rules, {"order": ORDER, "pairs": PAIRS}),
    (steps_of, {"rules": RULES, "term": TERM}),
    (run_of, {"rules": RULES, "term": TERM}),
    (end_of, {"rules": RULES, "term": TERM}),
    (meetings_of, {"rules": RULES}),
    (two_ends, {"rules": RULES}),
    (replay, {"order": ORDER, "equations": PAIRS, "lines": [("orient", 0), ("reduce", 0), ("orient", 0)]}),
    (complete, {"order": ORDER, "equations": PAIRS, "limit": 3}),
    (World, {"signature": S, "size": 1, "tables": [[0], (0,), [0], (0,), [0]]}),
    (WORLD.value, {"term": TERM, "values": [("X", 0), ("Y", 1)]}),
    (WORLD.counter, {"pair": (TERM, "X")}),
    (WORLD.holds, {"pair": (TERM, TERM)}),
    (parting_world, {"signature": S, "one": TERM, "two": "X", "given": [(("a",), ("b",))]}),
    (conclusions, {"signature": S, "axioms": PAIRS, "lines": [("axiom", 1), ("fill", 0, (("X", TERM),)), ("back", 1)]}),
    (derive_alike, {"signature": S, "one": TERM, "two": ("f", TERM[2], TERM[1])}),
    (derive_end, {"rules": RULES, "term": TERM}),
    (derive_closed, {"signature": S, "equations": [(("a",), ("b",))], "one": ("f", "X", ("a",)),
                     "two": ("f", ("b",), "X")}),
    (derive_completion, {"order": ORDER, "equations": PAIRS, "lines": [("orient", 0), ("meet", 0), ("reduce", 1)]}),
    (format_term, {"term": TERM}),
    (parse_term, {"signature": S, "text": "f(X, p(a, Y))"}),
    (format_wishes, {"wishes": WISHES}),
    (parse_wishes, {"signature": S, "text": "X, Y: f(X, a) = f(b, Y); X = X1"}),
    (Desk, {"signature": S, "asked": ["X", "Y"]}),
    (DESK.back, {"mark": 0}),
    (Trial, {"desk": DESK}),
    (perform, {"desk": DESK, "script": [("wish", "X", "Y"), ("trial", (("back", 0), ("bar", "Z", "X"))), ("back", 0)],
               "strict": False}),
    (perform_within, {"trial": Trial(DESK), "script": [("bar", "X", "Y"), ("back", 0)], "strict": True}),
]
# Which of their parameters are passed by keyword only.
KEYWORDS_ONLY = {complete: ["limit"], parting_world: ["given"], perform: ["strict"], perform_within: ["strict"]}


def called(function, *args, **keywords):
    """Return what the call returns, or the tuple of what it yields, in a form that can be compared."""
    result = function(*args, **keywords)
    if isinstance(result, Coverage):
        return result.missed, result.doubled, result.reached
    if isinstance(result, Order):
        return result.signature.symbols, result.weights
    if isinstance(result, Rules):
        return called(Order, result.order.signature, result.order.weights), result.pairs
    if isinstance(result, Completion):
        return result.status, result.rules.pairs, result.left, result.lines
    if isinstance(result, World):
        return result.signature.symbols, result.size, result.tables
    if isinstance(result, Wishes):
        return result.signature.symbols, result.asked, result.pairs
    if isinstance(result, Desk):
        return result.signature.symbols, result.asked, result.deeds
    if isinstance(result, Trial):
        return result.desk.deeds
    if function is parting_world:
        return result[0].size, result[0].tables, result[1]
    return tuple(result) if function in (turnings_of, closed_terms) else result


class GeneralTest(Case):

    def test_by_place_and_by_name_with_lists_and_tuples(self):
        for function, keywords in CALLS:
            expected = called(function, **keywords)
            tuples = {name: tuple(value) if isinstance(value, list) else value for name, value in keywords.items()}
            for passed in (keywords, tuples):
                before = copy.deepcopy({name: value for name, value in passed.items()
                                        if isinstance(value, (list, tuple))})
                only = KEYWORDS_ONLY.get(function, [])
                by_place = [value for name, value in passed.items() if name not in only]
                self.assertEqual(expected, called(function, *by_place, **{name: passed[name] for name in only}))
                self.assertEqual(expected, called(function, **passed), function)
                for name, value in before.items():
                    self.assertEqual(value, passed[name], function)

    def test_what_is_returned(self):
        for function, keywords in CALLS:
            result = called(function, **keywords)
            if function in (check_term, DESK.back):
                self.assertIsNone(result)
            elif isinstance(result, Layers):
                self.only_tuples(tuple(book.rows for book in result.books))
            elif isinstance(result, Book):
                self.only_tuples(result.rows)
            elif function not in (term_order, row_order, coverage):
                self.only_tuples(result)
            if function in (are_alike, is_case, BOOK.within, SAYING.is_met, LAYERS.within, are_closed_kinds,
                            WORLD.holds):
                self.assertIs(True, result)

    def test_objects_keep_their_fields(self):
        asked, pairs = ("X", "Y"), ((TERM, "Z"),)
        wishes = Wishes(S, asked, pairs)
        for _ in range(2):
            answers_of(wishes, tree_of(wishes))
            self.same(("Z",), wishes.helpers)
            self.same(asked, wishes.asked)
            self.same(pairs, wishes.pairs)
            self.assertIs(S, wishes.signature)
        self.same(tuple(SYMBOLS), S.symbols)

    def test_two_shelves_and_two_signatures(self):
        one, two = Shelf(S), Shelf(S)
        one.put_term(TERM)
        self.assertEqual(0, len(two))
        self.assertEqual(0, two.put("b"))
        other = Signature([("f", 2, False), ("a", 0, False)])
        self.assertEqual(((), (0,), (1,)), two_way_places(S, TERM))
        self.assertEqual((), two_way_places(other, ("f", "X", ("f", "Y", ("a",)))))
