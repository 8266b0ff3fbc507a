"""The kernel: what the lines of a derivation conclude."""

from twowaysigns.errors import BadLine, BadTerm
from twowaysigns.exactterms import ExactTerms
from twowaysigns.terms import check_term


class Kernel:
    """The axioms, and the conclusions of the lines so far, as pairs of numbers of terms."""

    def __init__(self, signature, axioms):
        self.signature = signature
        self.axioms = axioms
        self.known = ExactTerms()
        self.pairs = []


def conclusions(signature, axioms, lines):
    """Return the conclusions of the lines of a derivation."""
    kernel = Kernel(signature, axioms)
    for index, line in enumerate(lines):
        pair = _conclusion(kernel, line)
        if pair is None:
            raise BadLine(index)
        kernel.pairs.append(pair)
    terms = kernel.known.terms
    return tuple([(terms[one], terms[two]) for one, two in kernel.pairs])


def _conclusion(kernel, line):
    """Return what the line concludes, None if it may not stand there."""
    word = line[0]
    if word == "within":
        return _within(kernel, line)
    if word not in RULES:
        return None
    rule = RULES[word]
    return rule(kernel, line) if len(line) == LENGTHS[word] else None


def _axiom(kernel, line):
    if not _is_index(line[1], kernel.axioms):
        return None
    one, two = kernel.axioms[line[1]]
    return kernel.known.number_of(one), kernel.known.number_of(two)


def _same(kernel, line):
    if not _is_term(kernel.signature, line[1]):
        return None
    number = kernel.known.number_of(line[1])
    return number, number


def _turned(kernel, line):
    _, name, one, two = line
    if not isinstance(name, str) or not kernel.signature.is_two_way(name):
        return None
    if not _is_term(kernel.signature, one) or not _is_term(kernel.signature, two):
        return None
    numbers = (kernel.known.number_of(one), kernel.known.number_of(two))
    return kernel.known.applied(name, numbers), kernel.known.applied(name, numbers[::-1])


def _back(kernel, line):
    if not _is_index(line[1], kernel.pairs):
        return None
    one, two = kernel.pairs[line[1]]
    return two, one


def _chained(kernel, line):
    if not _is_index(line[1], kernel.pairs) or not _is_index(line[2], kernel.pairs):
        return None
    one, middle = kernel.pairs[line[1]]
    other, two = kernel.pairs[line[2]]
    return (one, two) if middle == other else None


def _within(kernel, line):
    if len(line) < 2 or not isinstance(line[1], str) or kernel.signature.arity(line[1]) != len(line) - 2:
        return None
    for index in line[2:]:
        if not _is_index(index, kernel.pairs):
            return None
    pairs = [kernel.pairs[index] for index in line[2:]]
    ones, twos = [tuple([pair[side] for pair in pairs]) for side in (0, 1)]
    return kernel.known.applied(line[1], ones), kernel.known.applied(line[1], twos)


def _filled(kernel, line):
    _, index, filling = line
    if not _is_index(index, kernel.pairs) or not isinstance(filling, tuple):
        return None
    one, two = kernel.pairs[index]
    return kernel.known.filled(one, filling), kernel.known.filled(two, filling)


def _is_index(value, items):
    return isinstance(value, int) and 0 <= value < len(items)


def _is_term(signature, value):
    if isinstance(value, int):
        return False
    try:
        check_term(signature, value)
    except BadTerm:
        return False
    return True


RULES = {"axiom": _axiom, "same": _same, "turn": _turned, "back": _back, "chain": _chained, "fill": _filled}
LENGTHS = {"axiom": 2, "same": 2, "turn": 4, "back": 2, "chain": 3, "fill": 3}
