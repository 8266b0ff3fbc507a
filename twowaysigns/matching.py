"""Matching: the fillings that make a pattern alike to a row."""

from twowaysigns.names import in_variable_order
from twowaysigns.sides import least_writing
from twowaysigns.terms import row_order, row_variables, variables_of


def matches_of(signature, pattern, row):
    """Return all fillings of the variables of the pattern that make it alike to the row, in order."""
    variables = in_variable_order(row_variables(pattern))
    found = {}
    for filling in _fillings(signature, pattern, row, False):
        news = [filling[variable] for variable in variables]
        found[row_order(signature, news)] = tuple(zip(variables, news))
    return tuple([found[key] for key in sorted(found)])


def is_case(signature, row, pattern):
    """Tell whether the row is a case of the pattern."""
    return len(_fillings(signature, pattern, row, True)) > 0


def _fillings(signature, pattern, row, is_one_enough):
    """Return dicts from variables to least writings, perhaps some of them several times."""
    if len(pattern) != len(row):
        return []
    written = [(least_writing(signature, one), least_writing(signature, two)) for one, two in zip(pattern, row)]
    found = []
    states = list(_followed(signature, written, {}, ()))
    while states:
        filling, waiting = states.pop()
        if waiting:
            for pairs in _sides_tried(waiting[0]):
                states.extend(_followed(signature, pairs, filling, waiting[1:]))
        else:
            found.append(filling)
            if is_one_enough:
                return found
    return found


def _followed(signature, pairs, filling, waiting):
    """Follow the pairs of pattern and term as far as there is but one way.

    Return no state, or one: the filling so far, and the two-way pairs that are left.
    All terms are least writings, so that those that are alike are equal.
    """
    named = dict(filling)
    left = []
    unread = list(pairs)
    while unread:
        pattern, term = unread.pop()
        if isinstance(pattern, str):
            if named.setdefault(pattern, term) != term:
                return []
        elif isinstance(term, str) or pattern[0] != term[0]:
            return []
        elif not signature.is_two_way(pattern[0]):
            unread.extend(list(zip(pattern[1:], term[1:])))
        elif variables_of(pattern):
            left.append((pattern, term))
        elif pattern != term:
            return []
    return [(named, tuple(left) + waiting)]


def _sides_tried(pair):
    """Return the ways to match the arguments of two applications of the same two-way symbol."""
    (_, one, two), (_, first, second) = pair
    straight = ((one, first), (two, second))
    if one == two or first == second:
        return [straight]
    return [straight, ((one, second), (two, first))]
