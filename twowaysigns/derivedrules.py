"""Derived rules: lines which show that terms are equal by closed equations, or that rules follow from equations."""

from twowaysigns.closures import CROSSED, STRAIGHT, closure_of
from twowaysigns.derivations import Derivation, alike_line, end_line, step_line
from twowaysigns.errors import BadLine
from twowaysigns.rules import Rules, steps_of
from twowaysigns.sides import are_alike
from twowaysigns.states import first_state, meetings_in, state_behind, without


def derive_closed(signature, equations, one, two):
    """Return a derivation of the pair from closed equations, None if its sides are not equal by them."""
    closure = closure_of(signature, (one, two), equations)
    first, second = closure.number_of(one), closure.number_of(two)
    if closure.classes[first] != closure.classes[second]:
        return None
    derivation = Derivation(signature)
    joined = {}
    for index in _needed_joinings(closure, first, second):
        joined[index] = _joining_line(derivation, closure, joined, closure.joinings[index])
    return derivation.lines_to(_equal_line(derivation, closure, joined, first, second))


def derive_completion(order, equations, lines):
    """Return a derivation from the equations and, for each rule to which the lines lead, the index of its line."""
    state = first_state(order, equations)
    derivation = Derivation(order.signature)
    shown = [derivation.axiom(index, pair) for index, pair in enumerate(state.equations)]
    ruled = []
    for index, line in enumerate(lines):
        behind = state_behind(state, line)
        if behind is None:
            raise BadLine(index)
        shown, ruled = _shown_behind(derivation, state, shown, ruled, line)
        state = behind
    return tuple(derivation.lines), tuple(ruled)


def _needed_joinings(closure, one, two):
    """Return the indexes of the joinings that make two terms equal, in ascending order."""
    needed = {index: True for index, _ in closure.way_between(one, two)}
    # What made the arguments equal came before: so it is found on the way down.
    for index in reversed(range(len(closure.joinings))):
        if index in needed:
            for first, second in _argument_pairs(closure, closure.joinings[index]):
                for below, _ in closure.way_between(first, second):
                    needed[below] = True
    return sorted(needed)


def _argument_pairs(closure, joining):
    """Return the pairs of arguments that must be equal for the joining."""
    one, two, reason = joining
    if reason not in (STRAIGHT, CROSSED):
        return []
    others = closure.heads[two][1:]
    return list(zip(closure.heads[one][1:], others[::-1] if reason == CROSSED else others))


def _joining_line(derivation, closure, joined, joining):
    """Return the index of a line that concludes the pair of the terms of the joining.

    What is passed as joined has such indexes for all joinings that it needs.
    """
    one, two, reason = joining
    if reason not in (STRAIGHT, CROSSED):
        return derivation.axiom(reason, (closure.terms[one], closure.terms[two]))
    lines = [_equal_line(derivation, closure, joined, first, second)
             for first, second in _argument_pairs(closure, joining)]
    name, *arguments = closure.terms[two]
    line = derivation.wrapped(name, lines)
    if reason == STRAIGHT:
        return line
    return derivation.chained(line, derivation.swapped(name, arguments[1], arguments[0]))


def _equal_line(derivation, closure, joined, one, two):
    """Return the index of a line that concludes the pair of two equal terms."""
    line = derivation.same(closure.terms[one])
    for index, is_backwards in closure.way_between(one, two):
        step = derivation.backwards(joined[index]) if is_backwards else joined[index]
        line = derivation.chained(line, step)
    return line


def _shown_behind(derivation, state, shown, ruled, line):
    """Return the indexes of lines that conclude the equations and the rules of the state behind the line.

    What is passed are the state before, and the indexes of such lines for it.
    """
    word, index = line
    if word == "drop":
        return without(shown, index), ruled
    if word == "reduce":
        return _with_line(shown, index, _reduced_line(derivation, state, shown, ruled, index)), ruled
    if word == "orient":
        return without(shown, index), ruled + [_oriented_line(derivation, state, shown, index)]
    if word == "meet":
        return shown + [_met_line(derivation, state, ruled, index)], ruled
    if word == "retire":
        return shown + [ruled[index]], without(ruled, index)
    _, right = state.rules.pairs[index]
    shortened = derivation.chained(ruled[index], end_line(derivation, ruled, state.rules, right))
    return shown, _with_line(ruled, index, shortened)


def _with_line(lines, index, line):
    return lines[:index] + [line] + lines[index + 1:]


def _reduced_line(derivation, state, shown, ruled, index):
    one, two = [end_line(derivation, ruled, state.rules, side) for side in state.equations[index]]
    return derivation.chained(derivation.backwards(one), derivation.chained(shown[index], two))


def _oriented_line(derivation, state, shown, index):
    one, two = state.equations[index]
    if state.rules.order.compare(one, two) == "greater":
        return shown[index]
    return derivation.backwards(shown[index])


def _met_line(derivation, state, ruled, index):
    """Return the index of a line that concludes the pair of both sides of the meeting."""
    i, _, j, peak, one, two = meetings_in(state)[index]
    lines = [_peak_line(derivation, state.rules, ruled, rule, peak, side) for rule, side in ((i, one), (j, two))]
    return derivation.chained(derivation.backwards(lines[0]), lines[1])


def _peak_line(derivation, rules, ruled, index, peak, side):
    """Return the index of a line that concludes the pair of the peak and what the rule makes of it."""
    steps = steps_of(Rules(rules.order, (rules.pairs[index],)), peak)
    # Both sides of a meeting result from one step of its peak, though perhaps turned.
    step = [step for step in steps if are_alike(derivation.signature, step[3], side)][0]
    line = step_line(derivation, ruled[index], peak, step)
    return derivation.chained(line, alike_line(derivation, step[3], side))
