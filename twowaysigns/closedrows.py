"""Closed rows: the least row of closed terms that meets a saying."""

from heapq import heappop, heappush

from twowaysigns.books import Book
from twowaysigns.closedterms import ClosedTerms
from twowaysigns.errors import FewClosedTerms, HasHelpers
from twowaysigns.fillings import fill_row
from twowaysigns.layers import layers_of
from twowaysigns.sides import least_writing
from twowaysigns.terms import row_occurrences, row_variables, size_of


def closed_row(saying):
    """Return a row of closed terms that meets the saying and has the least size, None if no row meets it."""
    for wishes in saying.lists:
        if wishes.helpers:
            raise HasHelpers()
    arities = [arity for _, arity, _ in saying.signature.symbols]
    if 0 not in arities or max(arities) == 0:
        raise FewClosedTerms()
    row = _least_case(layers_of(saying))
    return None if row is None else tuple([least_writing(saying.signature, term) for term in row])


class Attempt:
    """A row of the set, the book of its cases that are not in the set, and which closed term is to be tried next.

    It is tried for a variable that occurs most often: so it is soon told how large the row must be.
    """

    def __init__(self, row, barred, index):
        occurrences = row_occurrences(row)
        self.row = row
        self.barred = barred
        self.index = index
        self.left = len(row_variables(row))
        self.many, self.variable = max([(occurrences.count(name), name) for name in occurrences], default=(0, None))


def _least_case(layers):
    """Return a closed row of the set that has the least size, None if there is none.

    Attempts are made in the order of the least sizes to which they may lead, so the first closed
    row is the one. Whatever is left of a row that is not barred, some closed cases of it are not
    barred either: few terms are tried in vain for each variable.
    """
    closed = ClosedTerms(layers.signature)
    attempts = []
    queue = []
    behind = layers.books[1:] + (Book(layers.signature, layers.width, ()),)
    for book, barred in list(zip(layers.books, behind))[::2]:
        for row in book:
            _put(queue, attempts, sum([size_of(term) for term in row]), Attempt(row, barred, 0))
    while queue:
        size, _, number = heappop(queue)
        attempt = attempts[number]
        if attempt.left == 0:
            return attempt.row
        term = closed.term_at(attempt.index)
        filled = fill_row(attempt.row, [(attempt.variable, term)])
        if filled not in attempt.barred:
            _put(queue, attempts, size, Attempt(filled, attempt.barred, 0))
        growth = attempt.many * (size_of(closed.term_at(attempt.index + 1)) - size_of(term))
        _put(queue, attempts, size + growth, Attempt(attempt.row, attempt.barred, attempt.index + 1))
    return None


def _put(queue, attempts, size, attempt):
    # Of attempts with the same least size, the one with the fewest variables left is nearest to its end.
    heappush(queue, (size, attempt.left, len(attempts)))
    attempts.append(attempt)
