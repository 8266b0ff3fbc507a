"""Terms: their parts and places, their variables and their order."""

from twowaysigns.errors import BadPlace, BadTerm
from twowaysigns.names import is_variable


def check_term(signature, value):
    """Raise BadTerm for the first place at which the value is not a term of the signature."""
    waiting = [((), value)]
    while waiting:
        place, part = waiting.pop()
        if not _begins_well(signature, part):
            raise BadTerm(place)
        waiting.extend(_arguments_backwards(place, part))


def size_of(term):
    """Return the number of occurrences of variables and symbols in the term."""
    return len(parts_in_order(term))


def variables_of(term):
    """Return the variables of the term, each once, in the order of their first occurrences."""
    return row_variables((term,))


def row_variables(row):
    """Return the variables of the row, each once, in the order of their first occurrences."""
    found = {}
    for variable in row_occurrences(row):
        found[variable] = True
    return tuple(found)


def row_occurrences(row):
    """Return the variable of every occurrence of a variable in the row, from left to right."""
    return tuple([part for term in row for part in parts_in_order(term) if isinstance(part, str)])


def places_of(term):
    """Return all places of the term, in order."""
    return tuple([place for place, _ in parts_with_places(term)])


def parts_in_order(term):
    """Return the part at every place of the term, in the order of places."""
    found = []
    waiting = [term]
    while waiting:
        part = waiting.pop()
        found.append(part)
        if not isinstance(part, str):
            waiting.extend(list(part[:0:-1]))
    return found


def parts_with_places(term):
    """Return a pair of place and part for every place of the term, in the order of places."""
    found = []
    waiting = [((), term)]
    while waiting:
        place, part = waiting.pop()
        found.append((place, part))
        waiting.extend(_arguments_backwards(place, part))
    return tuple(found)


def part_at(term, place):
    """Return the part of the term at the place."""
    return _parts_on_the_way(term, place)[-1]


def replaced_at(term, place, new):
    """Return the term in which the part at the place is replaced by the new term."""
    result = new
    parts = _parts_on_the_way(term, place)
    for index, part in reversed(list(zip(place, parts))):
        result = part[:index + 1] + (result,) + part[index + 2:]
    return result


def term_order(signature, term):
    """Return a string; sorted by it, terms are in the order of terms.

    No such string is the beginning of another one, so it also tells terms apart as a key,
    and those of several terms in a row may simply be joined.
    """
    return "".join([sign_order(signature, part) for part in parts_in_order(term)])


def row_order(signature, row):
    """Return a string; sorted by it, rows of the same width are in the order of rows."""
    return "".join([term_order(signature, term) for term in row])


def sign_order(signature, term):
    """Return the beginning of the order string of a term: what it says of its first sign."""
    if isinstance(term, str):
        return f"0{len(term):02d}{term}"
    return f"1{signature.rank(term[0]):02d}"


def _begins_well(signature, part):
    if isinstance(part, str):
        return is_variable(part)
    if not part or not isinstance(part[0], str):
        return False
    return signature.arity(part[0]) == len(part) - 1


def _arguments_backwards(place, part):
    """Return the arguments of a part with their places, the last one first, as a stack takes them."""
    if isinstance(part, str):
        return []
    return [(place + (index,), part[index + 1]) for index in reversed(range(len(part) - 1))]


def _parts_on_the_way(term, place):
    """Return the parts from the term itself down to the part at the place."""
    parts = [term]
    for index in place:
        part = parts[-1]
        if isinstance(part, str) or not 0 <= index < len(part) - 1:
            raise BadPlace(place)
        parts.append(part[index + 1])
    return parts
