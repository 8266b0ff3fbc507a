"""Completion: making rules of equations, such that terms are equal just if their ends are."""

from twowaysigns.errors import BadLine
from twowaysigns.rules import end_of, has_step
from twowaysigns.sides import are_alike
from twowaysigns.states import falling_pair, first_state, has_other_step, meetings_in, state_behind
from twowaysigns.tellings import least_telling
from twowaysigns.terms import row_order


class Completion:
    """The lines of a completion, the rules and the equations to which they lead, and its status."""

    def __init__(self, status, rules, left, lines):
        self.status = status
        self.rules = rules
        self.left = left
        self.lines = lines


class Work:
    """The lines that were applied so far, and the state behind them."""

    def __init__(self, order, equations):
        self.order = order
        self.state = first_state(order, equations)
        self.lines = []

    def do(self, word, index):
        """Apply a line, which may be applied."""
        self.lines.append((word, index))
        self.state = state_behind(self.state, (word, index))

    def count_oriented(self):
        """Return the number of lines that made a rule."""
        return len([word for word, _ in self.lines if word == "orient"])


def replay(order, equations, lines):
    """Return the rules and the equations of the state to which the lines lead."""
    state = first_state(order, equations)
    for index, line in enumerate(lines):
        state = state_behind(state, line)
        if state is None:
            raise BadLine(index)
    return state.rules.pairs, state.equations


def complete(order, equations, *, limit):
    """Return a completion of the equations with at most so many lines that make a rule."""
    work = Work(order, equations)
    _settle(work)
    equation = _next_equation(work)
    while equation is not None and work.count_oriented() < limit:
        work.do("orient", equation)
        _settle(work)
        equation = _next_equation(work)
    status = "limit"
    if equation is None:
        _meet_all(work)
        status = "stuck" if work.state.equations else "complete"
    return Completion(status, work.state.rules, work.state.equations, tuple(work.lines))


def _settle(work):
    """Retire the rules whose left side has a step by another one, shorten the others, and reduce all equations."""
    index = 0
    while index < len(work.state.rules.pairs):
        if has_other_step(work.state.rules, index):
            work.do("retire", index)
        else:
            index += 1
    for place in range(len(work.state.rules.pairs)):
        _, right = work.state.rules.pairs[place]
        if has_step(work.state.rules, right):
            work.do("shorten", place)
    # The last equation first: so the places of the others stay as they are when one is dropped.
    for place in reversed(range(len(work.state.equations))):
        _reduce(work, place)


def _reduce(work, index):
    """Reduce an equation, and drop it if its sides are alike."""
    if any([has_step(work.state.rules, side) for side in work.state.equations[index]]):
        work.do("reduce", index)
    one, two = work.state.equations[index]
    if are_alike(work.order.signature, one, two):
        work.do("drop", index)


def _next_equation(work):
    """Return the index of the equation of which the next rule is to be made, None if there is none.

    All equations have been reduced. The lightest one is taken, and if a meeting leads to a lighter
    one, it is put behind the equations first: so fewer rules are made that must be retired again.
    """
    found = [(_weight_of(work, equation), 0, index) for index, equation in enumerate(work.state.equations)
             if falling_pair(work.order, equation) is not None]
    for index, ends in enumerate(_ends_of_meetings(work)):
        if falling_pair(work.order, ends) is not None:
            found.append((_weight_of(work, ends), 1, index))
    if not found:
        return None
    _, is_meeting, index = min(found)
    if not is_meeting:
        return index
    return _meet(work, index)


def _weight_of(work, equation):
    weights = [work.order.weight(side) for side in equation]
    return max(weights), min(weights), row_order(work.order.signature, equation)


def _ends_of_meetings(work):
    """Return the ends of both sides of each meeting, as pairs."""
    rules = work.state.rules
    return [(end_of(rules, one), end_of(rules, two)) for _, _, _, _, one, two in meetings_in(work.state)]


def _meet(work, index):
    """Make a reduced equation of a meeting and return its index."""
    work.do("meet", index)
    last = len(work.state.equations) - 1
    work.do("reduce", last)
    return last


def _meet_all(work):
    """Make equations of the meetings that have two ends, those that are as wide but once."""
    signature = work.order.signature
    known = {row_order(signature, least_telling(signature, equation)): True for equation in work.state.equations}
    pairs = _ends_of_meetings(work)
    for index, ends in enumerate(pairs):
        keys = [row_order(signature, least_telling(signature, row)) for row in (ends, ends[::-1])]
        if ends[0] != ends[1] and keys[0] not in known and keys[1] not in known:
            _meet(work, index)
            known[keys[0]] = True
