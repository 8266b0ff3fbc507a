"""Solving: the widest rows that meet wishes, and the wishes that no row meets together."""

from twowaysigns.books import Book
from twowaysigns.graphs import FROZEN, OPEN, graph_of
from twowaysigns.joining import can_join, joined_row, ways_to_join


def widest(wishes):
    """Return the book of all rows that meet the wishes."""
    return book_of_cases(wishes.signature, wishes.asked, wishes.pairs)


def book_of_cases(signature, row, pairs):
    """Return the book of what becomes of the row by all fillings that make the sides of each pair alike."""
    graph = graph_of(signature, _open_rows(row, pairs))
    ways = ways_to_join(graph, _wished_pairs(graph), False)
    return Book(signature, len(row), [joined_row(graph, joined, graph.rows[0]) for joined in ways])


def meets(wishes, row):
    """Tell whether the row meets the wishes."""
    if len(row) != len(wishes.asked):
        return False
    graph = graph_of(wishes.signature, _open_rows(wishes.asked, wishes.pairs) + [(FROZEN, row)])
    return can_join(graph, list(zip(graph.rows[0], graph.rows[2])) + _wished_pairs(graph))


def clashes(wishes):
    """Return all sets of indexes of pairs that no row meets together, though it may meet all but one of them."""
    graph = graph_of(wishes.signature, _open_rows(wishes.asked, wishes.pairs))
    pairs = _wished_pairs(graph)
    found = []
    for indexes in _chosen_indexes(len(pairs)):
        if not _contains_one(indexes, found) and not can_join(graph, [pairs[index] for index in indexes]):
            found.append(indexes)
    return tuple(found)


def _open_rows(row, pairs):
    return [(OPEN, row), (OPEN, [side for pair in pairs for side in pair])]


def _wished_pairs(graph):
    sides = graph.rows[1]
    return list(zip(sides[::2], sides[1::2]))


def _chosen_indexes(many):
    """Return all tuples of ascending indexes, shorter ones first, those of one length in order."""
    found = []
    longest = [()]
    while longest:
        found.extend(longest)
        longest = [chosen + (index,) for chosen in longest for index in range(chosen[-1] + 1 if chosen else 0, many)]
    return found


def _contains_one(indexes, smaller_sets):
    for smaller in smaller_sets:
        if all([index in indexes for index in smaller]):
            return True
    return False
