"""Tellings: one way of writing for all rows that are as wide as each other."""

from twowaysigns.fillings import fill_row
from twowaysigns.sides import is_two_way_part
from twowaysigns.terms import row_occurrences, sign_order

# A variable that occurs once may have any name; as one mark, all of them look the same.
SINGLE = ""
SKELETON_VARIABLE = "V0"


class Part:
    """A part of a term, with its arguments in the order of their least skeletons.

    The shape tells its least skeleton apart from others, the look tells the part apart from all
    that are not alike to it. The part is free if its sides may be exchanged and this may matter.
    """

    def __init__(self, shape, look, name, arguments, is_free):
        self.shape = shape
        self.look = look
        self.name = name
        self.arguments = arguments
        self.is_free = is_free


def least_telling(signature, row):
    """Return the least telling of the row."""
    _, told, _ = _told_row([_part(signature, term) for term in _with_singles(row)], [()])
    return told


def _with_singles(row):
    counts = {}
    for variable in row_occurrences(row):
        counts[variable] = counts.get(variable, 0) + 1
    return fill_row(row, [(variable, SINGLE) for variable in counts if counts[variable] == 1])


def _part(signature, term):
    mark = sign_order(signature, term)
    if isinstance(term, str):
        return Part(sign_order(signature, SKELETON_VARIABLE), mark, term, None, False)
    parts = [_part(signature, argument) for argument in term[1:]]
    looks = [part.look for part in parts]
    is_free = False
    if is_two_way_part(signature, term):
        looks = sorted(looks)
        is_free = parts[0].shape == parts[1].shape and looks[0] != looks[1]
        if parts[1].shape < parts[0].shape:
            parts = parts[::-1]
    shape = mark + "".join([part.shape for part in parts])
    return Part(shape, mark + "".join(looks), term[0], parts, is_free)


def _told(part, states):
    """Return the least variable numbers of the part, the part as they tell it, and the states behind it.

    A state is the tuple of the variables that have a number, in the order of their numbers. The
    states that are passed told what stands before with the same numbers; those that do not lead
    to the least numbers are left out.
    """
    if part.arguments is None:
        return _told_variable(part.name, states)
    least = _told_row(part.arguments, states)
    if part.is_free:
        least = _lesser(least, _told_row(part.arguments[::-1], states))
    numbers, told, behind = least
    return numbers, (part.name,) + told, behind


def _told_row(parts, states):
    numbers = ()
    told = ()
    behind = states
    for part in parts:
        more, term, behind = _told(part, behind)
        numbers = numbers + more
        told = told + (term,)
    return numbers, told, behind


def _told_variable(name, states):
    numbered = [(_number(name, state), state) for state in states]
    least = min([number for number, _ in numbered])
    behind = [_with_number(name, least, state) for number, state in numbered if number == least]
    return (least,), f"V{least}", _each_once(behind)


def _lesser(one, two):
    """Return what has the lesser numbers; if they are equal, the terms are too, and all states go on."""
    if one[0] == two[0]:
        return one[0], one[1], _each_once(one[2] + two[2])
    return one if one[0] < two[0] else two


def _number(name, state):
    if name != SINGLE:
        for index, known in enumerate(state):
            if known == name:
                return index + 1
    return len(state) + 1


def _with_number(name, number, state):
    return state if number <= len(state) else state + (name,)


def _each_once(states):
    found = {}
    for state in states:
        found[state] = True
    return list(found)
