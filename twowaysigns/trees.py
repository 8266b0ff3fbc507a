"""Trees: all ways of turning sides that lead from wishes to their answers."""

from twowaysigns.errors import BadLine
from twowaysigns.fillings import fill_row, fill_term
from twowaysigns.sides import are_alike, is_two_way_part
from twowaysigns.terms import variables_of


def answers_of(wishes, lines):
    """Return the rows of the answers of the tree that consists of the lines."""
    answers = []
    states = [_first_state(wishes)]
    for index, line in enumerate(lines):
        if not states:
            raise BadLine(index)
        state = states.pop()
        made = _states_made(wishes.signature, state, line)
        if made is None:
            raise BadLine(index)
        if line == ("answer",):
            answers.append(state[1])
        states.extend(made[::-1])
    if states:
        raise BadLine(len(lines))
    return tuple(answers)


def tree_of(wishes):
    """Return a tree for the wishes."""
    lines = []
    states = [_first_state(wishes)]
    while states:
        state = states.pop()
        line = _line_for(wishes.signature, state[0])
        lines.append(line)
        states.extend(_states_made(wishes.signature, state, line)[::-1])
    return tuple(lines)


def _first_state(wishes):
    """Return the first state; a state is a pair of the pending pairs and of the row."""
    return wishes.pairs, wishes.asked


def _states_made(signature, state, line):
    """Return the tuple of the states that the line makes, or None if it may not be applied."""
    pending, _ = state
    if line == ("answer",):
        return None if pending else ()
    if len(line) not in (2, 3) or not 0 <= line[1] < len(pending):
        return None
    if len(line) == 3:
        return _bound(state, line[1], line[2]) if line[0] == "bind" else None
    word, index = line
    one, two = pending[index]
    if word == "drop":
        return (_with_pairs(state, index, ()),) if are_alike(signature, one, two) else None
    if word == "loop":
        return () if _is_loop(one, two) or _is_loop(two, one) else None
    if isinstance(one, str) or isinstance(two, str):
        return None
    return _states_of_applications(signature, state, word, index)


def _states_of_applications(signature, state, word, index):
    one, two = state[0][index]
    if word == "clash":
        return () if one[0] != two[0] else None
    if one[0] != two[0]:
        return None
    straight = _with_pairs(state, index, tuple(zip(one[1:], two[1:])))
    if not is_two_way_part(signature, one):
        return (straight,) if word == "split" else None
    crossed = _with_pairs(state, index, tuple(zip(one[1:], two[:0:-1])))
    return (straight, crossed) if word == "turn" else None


def _with_pairs(state, index, pairs):
    """Return the state in which the pair at the index is replaced by the pairs."""
    pending, row = state
    return pending[:index] + pairs + pending[index + 1:], row


def _bound(state, index, side):
    if side not in (0, 1):
        return None
    variable = state[0][index][side]
    other = state[0][index][1 - side]
    if not isinstance(variable, str) or variable in variables_of(other):
        return None
    filling = ((variable, other),)
    pending, row = _with_pairs(state, index, ())
    filled = [(fill_term(one, filling), fill_term(two, filling)) for one, two in pending]
    return ((tuple(filled), fill_row(row, filling)),)


def _is_loop(one, two):
    return isinstance(one, str) and not isinstance(two, str) and one in variables_of(two)


def _line_for(signature, pending):
    """Return a line that may be applied: the first one that makes at most one state, if there is one."""
    if not pending:
        return ("answer",)
    for index, (one, two) in enumerate(pending):
        line = _single_line(signature, one, two, index)
        if line is not None:
            return line
    # What the front pair leaves stays at the front and is settled before the pairs behind it are
    # turned. So two parts are turned against each other but once on the way to an answer, however
    # often they were copied: then the copies are alike.
    return ("turn", 0)


def _single_line(signature, one, two, index):
    """Return a line for the pair that makes no state or one, or None if it must be turned."""
    if one == two:
        return ("drop", index)
    if _is_loop(one, two) or _is_loop(two, one):
        return ("loop", index)
    if isinstance(one, str) or isinstance(two, str):
        return ("bind", index, 0 if isinstance(one, str) else 1)
    if one[0] != two[0]:
        return ("clash", index)
    if not is_two_way_part(signature, one):
        return ("split", index)
    return ("drop", index) if are_alike(signature, one, two) else None
