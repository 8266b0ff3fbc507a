"""Sides: turning terms at two-way places, and which terms are alike."""

from twowaysigns.errors import BadPlace
from twowaysigns.terms import part_at, parts_with_places, replaced_at, sign_order


def turned(signature, term, places):
    """Return the term in which the two arguments are exchanged at each of the places."""
    chosen = {}
    for place in places:
        if place in chosen or not is_two_way_part(signature, part_at(term, place)):
            raise BadPlace(place)
        chosen[place] = True
    result = term
    # The last place first: an exchange moves only what stands below it, and that comes later in order.
    for place in sorted(chosen, reverse=True):
        name, one, two = part_at(result, place)
        result = replaced_at(result, place, (name, two, one))
    return result


def least_writing(signature, term):
    """Return the first of all turnings of the term."""
    _, written = keyed_writing(signature, term)
    return written


def are_alike(signature, one, two):
    """Tell whether one term is a turning of the other."""
    return one == two or likeness(signature, one) == likeness(signature, two)


def likeness(signature, term):
    """Return the order string of the least writing: the same string for just the terms that are alike."""
    key, _ = keyed_writing(signature, term)
    return key


def two_way_places(signature, term):
    """Return the two-way places of the term, in order."""
    return tuple([place for place, part in parts_with_places(term) if is_two_way_part(signature, part)])


def even_places(signature, term):
    """Return the two-way places of the term at which the two arguments are alike."""
    return tuple([place for place, part in parts_with_places(term) if _is_even_part(signature, part)])


def is_two_way_part(signature, part):
    """Tell whether the part is an application of a two-way symbol."""
    return not isinstance(part, str) and signature.is_two_way(part[0])


def keyed_writing(signature, term):
    """Return the order string of the least writing of the term, and the least writing."""
    key = sign_order(signature, term)
    if isinstance(term, str):
        return key, term
    keyed = [keyed_writing(signature, argument) for argument in term[1:]]
    if signature.is_two_way(term[0]):
        keyed = sorted(keyed, key=lambda pair: pair[0])
    key = key + "".join([argument_key for argument_key, _ in keyed])
    return key, (term[0],) + tuple([written for _, written in keyed])


def _is_even_part(signature, part):
    return is_two_way_part(signature, part) and are_alike(signature, part[1], part[2])
