"""Derivations: lists of lines that are built so that the kernel accepts them."""

from twowaysigns.fillings import fill_term
from twowaysigns.rules import run_steps
from twowaysigns.sides import are_alike, is_two_way_part, least_writing
from twowaysigns.terms import part_at


class Derivation:
    """The lines so far; each method returns the index of a line with the conclusion that it tells.

    What each line concludes is kept, so that lines are left out which lead from a term to itself.
    """

    def __init__(self, signature):
        self.signature = signature
        self.lines = []
        self._pairs = []

    def lines_to(self, index):
        """Return the lines up to the one with this index."""
        return tuple(self.lines[:index + 1])

    def concluded(self, index):
        """Return what the line with this index concludes."""
        return self._pairs[index]

    def axiom(self, index, pair):
        """Conclude the axiom with this index."""
        return self._add(("axiom", index), pair)

    def same(self, term):
        """Conclude that the term equals itself."""
        return self._add(("same", term), (term, term))

    def swapped(self, name, one, two):
        """Conclude that a two-way symbol does not care for the order of these arguments."""
        return self._add(("turn", name, one, two), ((name, one, two), (name, two, one)))

    def backwards(self, index):
        """Conclude what the line does, with the sides exchanged."""
        one, two = self._pairs[index]
        return index if one == two else self._add(("back", index), (two, one))

    def chained(self, first, second):
        """Conclude what two lines do one after the other."""
        (one, middle), (_, two) = self._pairs[first], self._pairs[second]
        if one == middle:
            return second
        return first if middle == two else self._add(("chain", first, second), (one, two))

    def wrapped(self, name, indexes):
        """Conclude that applications of the symbol to the sides of these lines are equal."""
        pairs = [self._pairs[index] for index in indexes]
        ones, twos = [tuple([pair[side] for pair in pairs]) for side in (0, 1)]
        return self._add(("within", name) + tuple(indexes), ((name,) + ones, (name,) + twos))

    def filled(self, index, filling):
        """Conclude what the line does, with both sides filled."""
        one, two = self._pairs[index]
        return self._add(("fill", index, filling), (fill_term(one, filling), fill_term(two, filling)))

    def _add(self, line, pair):
        self.lines.append(line)
        self._pairs.append(pair)
        return len(self.lines) - 1


def alike_line(derivation, one, two):
    """Return the index of a line that concludes the pair of two alike terms."""
    if one == two:
        return derivation.same(one)
    name, *twos = two
    turned = twos[::-1]
    if not is_two_way_part(derivation.signature, one) or _are_rows_alike(derivation.signature, one[1:], twos):
        return derivation.wrapped(name, [alike_line(derivation, first, other) for first, other in zip(one[1:], twos)])
    crossed = [alike_line(derivation, first, other) for first, other in zip(one[1:], turned)]
    return derivation.chained(derivation.wrapped(name, crossed), derivation.swapped(name, turned[0], turned[1]))


def step_line(derivation, rule, term, step):
    """Return the index of a line that concludes the pair of the term and the result of the step.

    The rule is the index of a line that concludes the rule of the step.
    """
    place, _, filling, _ = step
    filled = derivation.filled(rule, filling)
    part = part_at(term, place)
    left, _ = derivation.concluded(filled)
    line = derivation.chained(alike_line(derivation, part, left), filled)
    for depth in reversed(range(len(place))):
        name, *arguments = part_at(term, place[:depth])
        lines = [line if index == place[depth] else derivation.same(argument)
                 for index, argument in enumerate(arguments)]
        line = derivation.wrapped(name, lines)
    return line


def end_line(derivation, axioms, rules, term):
    """Return the index of a line that concludes the pair of the term and its end by the rules.

    The axioms are the indexes of lines that conclude the rules, in their order.
    """
    line = derivation.same(term)
    reached = term
    for step in run_steps(rules, term):
        line = derivation.chained(line, step_line(derivation, axioms[step[1]], reached, step))
        reached = step[3]
    end = least_writing(derivation.signature, reached)
    return derivation.chained(line, alike_line(derivation, reached, end))


def _are_rows_alike(signature, ones, twos):
    return all([are_alike(signature, one, two) for one, two in zip(ones, twos)])
