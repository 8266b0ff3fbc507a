"""States: the equations and rules of a completion, and what the lines make of them."""

from twowaysigns.meetings import MeetingTable
from twowaysigns.rules import Rules, end_of, has_step
from twowaysigns.sides import are_alike


class State:
    """The rules and the equations; the table finds the meetings of the rules."""

    def __init__(self, rules, equations, table):
        self.rules = rules
        self.equations = equations
        self.table = table


def first_state(order, equations):
    """Return the state with the equations and without rules."""
    return State(Rules(order, ()), tuple(equations), MeetingTable(order.signature))


def meetings_in(state):
    """Return the meetings of the rules of the state."""
    return state.table.meetings(state.rules.pairs)


def falling_pair(order, equation):
    """Return the equation with its greater side first, None if neither side is greater."""
    one, two = equation
    compared = order.compare(one, two)
    if compared == "greater":
        return equation
    return (two, one) if compared == "less" else None


def has_other_step(rules, index):
    """Tell whether the left side of the rule with this index has a step by another rule."""
    others = Rules(rules.order, without(rules.pairs, index))
    return has_step(others, rules.pairs[index][0])


def without(pairs, index):
    """Return the pairs without the one at the index."""
    return pairs[:index] + pairs[index + 1:]


def state_behind(state, line):
    """Return the state that the line makes, None if it is not a line that may be applied."""
    if len(line) != 2 or line[0] not in MAKERS or line[1] < 0:
        return None
    maker = MAKERS[line[0]]
    return maker(state, line[1])


def _dropped(state, index):
    if index >= len(state.equations):
        return None
    one, two = state.equations[index]
    if not are_alike(state.table.signature, one, two):
        return None
    return State(state.rules, without(state.equations, index), state.table)


def _reduced(state, index):
    if index >= len(state.equations):
        return None
    ends = tuple([end_of(state.rules, side) for side in state.equations[index]])
    return State(state.rules, _with_pair(state.equations, index, ends), state.table)


def _oriented(state, index):
    if index >= len(state.equations):
        return None
    one, two = state.equations[index]
    rule = falling_pair(state.rules.order, (one, two))
    if rule is None or has_step(state.rules, one) or has_step(state.rules, two):
        return None
    rules = Rules(state.rules.order, state.rules.pairs + (rule,))
    return State(rules, without(state.equations, index), state.table)


def _met(state, index):
    meetings = meetings_in(state)
    if index >= len(meetings):
        return None
    return State(state.rules, state.equations + (meetings[index][4:],), state.table)


def _retired(state, index):
    pairs = state.rules.pairs
    if index >= len(pairs) or not has_other_step(state.rules, index):
        return None
    rules = Rules(state.rules.order, without(pairs, index))
    return State(rules, state.equations + (pairs[index],), state.table)


def _shortened(state, index):
    pairs = state.rules.pairs
    if index >= len(pairs):
        return None
    left, right = pairs[index]
    rule = (left, end_of(state.rules, right))
    return State(Rules(state.rules.order, _with_pair(pairs, index, rule)), state.equations, state.table)


def _with_pair(pairs, index, pair):
    """Return the pairs with this pair at the index."""
    return pairs[:index] + (pair,) + pairs[index + 1:]


MAKERS = {
    "drop": _dropped,
    "reduce": _reduced,
    "orient": _oriented,
    "meet": _met,
    "retire": _retired,
    "shorten": _shortened,
}
