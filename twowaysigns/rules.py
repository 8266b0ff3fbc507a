"""Rules: pairs that fall in an order, and the steps that terms take by them."""

from twowaysigns.errors import NotFalling
from twowaysigns.fillings import fill_term
from twowaysigns.matching import matches_of
from twowaysigns.sides import least_writing
from twowaysigns.terms import parts_with_places, replaced_at


class Rules:
    """Pairs of a left and a right side; each left side is greater than its right side."""

    def __init__(self, order, pairs):
        for index, (left, right) in enumerate(pairs):
            if order.compare(left, right) != "greater":
                raise NotFalling(index)
        self.order = order
        self.pairs = tuple(pairs)


def steps_of(rules, term):
    """Return all steps of the term as (place, index, filling, result)."""
    found = []
    for place, part in parts_with_places(term):
        for index in range(len(rules.pairs)):
            found.extend(_steps_at(rules, term, place, part, index))
    return tuple(found)


def run_of(rules, term):
    """Return the terms on the way from the term to an end, each the result of the first step of the one before."""
    return tuple([term] + [result for _, _, _, result in run_steps(rules, term)])


def end_of(rules, term):
    """Return the least writing of the end to which the run leads."""
    return least_writing(rules.order.signature, run_of(rules, term)[-1])


def run_steps(rules, term):
    """Return the steps of the run, as a list."""
    steps = []
    step = first_step(rules, term)
    while step is not None:
        steps.append(step)
        step = first_step(rules, step[3])
    return steps


def first_step(rules, term):
    """Return the first step of the term, None if it is an end."""
    for place, part in parts_with_places(term):
        for index in range(len(rules.pairs)):
            steps = _steps_at(rules, term, place, part, index)
            if steps:
                return steps[0]
    return None


def has_step(rules, term):
    """Tell whether the term has a step."""
    return first_step(rules, term) is not None


def _steps_at(rules, term, place, part, index):
    """Return the steps of the term at the place by the rule with this index, in order."""
    left, right = rules.pairs[index]
    # A left side is never a variable: nothing is less than a variable.
    if isinstance(part, str) or part[0] != left[0]:
        return []
    fillings = matches_of(rules.order.signature, (left,), (part,))
    return [(place, index, filling, replaced_at(term, place, fill_term(right, filling))) for filling in fillings]
