"""Joining: the ways to make parts of a graph alike, by joining those that become the same term.

What is joined is a dict: a number of the graph leads on to the number that stands for both. It is
only read by those that are passed it, since operators on books come here. Joined parts are never
looked at again, so the steps follow the number of parts and not the sizes of the terms.
"""

from twowaysigns.graphs import OPEN, OTHER, graph_of, is_open


def ways_to_join(graph, pairs, is_one_enough):
    """Return the ways to make the sides of all pairs alike; every such filling is a case of one of them."""
    found = []
    states = list(_settled(graph, {}, pairs))
    while states:
        joined, left = states.pop()
        if left:
            for choice in _choices(graph, joined, left[0]):
                states.extend(_settled(graph, _with_joined(joined, left[0]), choice + left[1:]))
        else:
            found.append(joined)
            if is_one_enough:
                return found
    return found


def can_join(graph, pairs):
    """Tell whether some filling makes the sides of all pairs alike."""
    return len(ways_to_join(graph, pairs, True)) > 0


def common_rows(signature, one, two):
    """Return rows whose cases are just the rows that are cases of both rows."""
    graph = graph_of(signature, [(OPEN, one), (OTHER, two)])
    ones, twos = graph.rows
    ways = ways_to_join(graph, list(zip(ones, twos)), False)
    return [joined_row(graph, joined, ones) for joined in ways]


def joined_row(graph, joined, row):
    """Return the terms that the numbers of the row stand for; what occurs often is one and the same object."""
    terms = {}
    waiting = [_stand_in(joined, number) for number in row]
    while waiting:
        number = waiting[-1]
        head = graph.heads[number]
        arguments = [_stand_in(joined, argument) for argument in head[1:]]
        missing = [argument for argument in arguments if argument not in terms]
        if missing:
            waiting.extend(missing)
        else:
            waiting.pop()
            terms[number] = head[0] if is_open(head) else (head[0],) + tuple([terms[part] for part in arguments])
    return tuple([terms[_stand_in(joined, number)] for number in row])


def _stand_in(joined, number):
    while number in joined:
        number = joined[number]
    return number


def _with_joined(joined, pair):
    one, two = pair
    news = dict(joined)
    news[one] = two
    return news


def _settled(graph, joined, pairs):
    """Join the pairs as far as there is but one way.

    Return no state, or one: what is joined, and the pairs of two-way applications that are left.
    """
    news = joined
    left = list(pairs)
    before = -1
    while left and before < len(news):
        before = len(news)
        followed = _followed(graph, news, left)
        if not followed:
            return []
        news, left = followed[0]
    return [(news, left)] if _is_finite(graph, news) else []


def _followed(graph, joined, pairs):
    """Do what _settled does, but look once at each pair that is left, although others come behind it."""
    news = dict(joined)
    unread = list(pairs)
    left = []
    while unread:
        pair = unread.pop()
        one, two = [_stand_in(news, number) for number in pair]
        if one == two:
            continue
        if is_open(graph.heads[two]) or graph.closed[one]:
            one, two = two, one
        if is_open(graph.heads[one]):
            news[one] = two
            continue
        choices = _choices(graph, news, (one, two))
        if not choices:
            return []
        if len(choices) > 1:
            left.append((one, two))
        else:
            news[one] = two
            unread.extend(choices[0])
    return [(news, left)]


def _choices(graph, joined, pair):
    """Return the lists of pairs of arguments, one of which must be joined to make two applications alike."""
    (name, *ones), (other_name, *twos) = [graph.heads[number] for number in pair]
    if name != other_name or all([graph.closed[number] for number in pair]):
        return []
    straight, crossed = list(zip(ones, twos)), list(zip(ones, twos[::-1]))
    if not graph.signature.is_two_way(name):
        return [straight]
    # If one argument fits already, all that the other way leads to is found this way, too.
    if _has_equal(joined, straight) or _has_equal(joined, [ones, twos]):
        return [straight]
    if _has_equal(joined, crossed):
        return [crossed]
    return [choice for choice in (straight, crossed) if _may_fit(graph, joined, choice)]


def _has_equal(joined, pairs):
    return any([_stand_in(joined, one) == _stand_in(joined, two) for one, two in pairs])


def _may_fit(graph, joined, pairs):
    """Tell False only if the pairs cannot be joined; what is behind their heads is not looked at."""
    for pair in pairs:
        one, two = [_stand_in(joined, number) for number in pair]
        heads = [graph.heads[one], graph.heads[two]]
        if one != two and not any([is_open(head) for head in heads]):
            if heads[0][0] != heads[1][0] or graph.closed[one] and graph.closed[two]:
                return False
    return True


def _is_finite(graph, joined):
    """Tell whether no term would have to be a part of itself."""
    is_done = {}
    waiting = [_stand_in(joined, number) for number in joined]
    while waiting:
        number = waiting[-1]
        if number in is_done:
            is_done[number] = True
            waiting.pop()
            continue
        is_done[number] = False
        for argument in graph.heads[number][1:]:
            below = _stand_in(joined, argument)
            if not is_done.get(below, True):
                return False
            if below not in is_done:
                waiting.append(below)
    return True
