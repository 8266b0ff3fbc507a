"""Turnings: all terms that result from exchanging sides, and those exchanges that change nothing."""

from twowaysigns.sides import even_places, two_way_places
from twowaysigns.terms import sign_order


def count_turnings(signature, term):
    """Return the number of turnings of the term."""
    return 1 << (len(two_way_places(signature, term)) - len(even_places(signature, term)))


def turnings_of(signature, term):
    """Yield all turnings of the term, each once, in the order of terms."""
    for _, turning in _keyed_turnings(signature, term):
        yield turning


def own_turnings(signature, term):
    """Return all sets of two-way places at which exchanging gives the very same term again."""
    counted = sorted([(len(places), places) for places in _exchanges(signature, term, term)])
    return tuple([places for _, places in counted])


def _keyed_turnings(signature, term):
    """Return a pair of order string and turning for all turnings, each once, in order."""
    mark = sign_order(signature, term)
    if isinstance(term, str):
        return [(mark, term)]
    lists = [_keyed_turnings(signature, argument) for argument in term[1:]]
    # Turnings of two terms are the same ones or have none in common; their first ones tell which.
    if signature.is_two_way(term[0]) and lists[0][0] != lists[1][0]:
        firsts = [(one, lists[1]) for one in lists[0]] + [(two, lists[0]) for two in lists[1]]
        rows = [(first, second) for first, seconds in sorted(firsts) for second in seconds]
    else:
        rows = _all_choices(lists)
    return [_keyed_application(mark, term[0], row) for row in rows]


def _keyed_application(mark, name, keyed):
    key = mark + "".join([argument_key for argument_key, _ in keyed])
    return key, (name,) + tuple([argument for _, argument in keyed])


def _all_choices(lists):
    """Return all tuples with one item of each list, those with earlier items at the front first."""
    rows = [()]
    for items in lists:
        rows = [row + (item,) for row in rows for item in items]
    return rows


def _exchanges(signature, one, two):
    """Return all sets of places of one term at which exchanging makes it the other term."""
    if isinstance(one, str) or isinstance(two, str):
        return [()] if one == two else []
    if one[0] != two[0]:
        return []
    found = _exchanges_of_arguments(signature, one[1:], two[1:])
    if signature.is_two_way(one[0]):
        crossed = _exchanges_of_arguments(signature, one[1:], two[:0:-1])
        found = found + [((),) + places for places in crossed]
    return found


def _exchanges_of_arguments(signature, ones, twos):
    rows = [()]
    for index, (one, two) in enumerate(zip(ones, twos)):
        below = _exchanges(signature, one, two)
        rows = [row + _below(index, places) for row in rows for places in below]
    return rows


def _below(index, places):
    return tuple([(index,) + place for place in places])
