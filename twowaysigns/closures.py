"""Closures: which of some terms are equal by closed equations, and why."""

from twowaysigns.errors import NotClosed
from twowaysigns.terms import row_variables

# Why two terms are equal, if not by a given equation: their arguments are, on the same sides or on the other ones.
STRAIGHT = "straight"
CROSSED = "crossed"


class Closure:
    """Terms exactly as written, with all their parts, by number; those of one class are equal.

    The head of a term is the name of its symbol, or the variable, followed by the numbers of its
    arguments. Each joining made one class of two: it is kept as the numbers of two terms and why
    they are equal, the index of an equation or how the arguments lie. There is just one way of
    joinings between two terms of a class.
    """

    def __init__(self, signature):
        self.signature = signature
        self.heads = []
        self.terms = []
        self.classes = []
        self.joinings = []
        self._numbers = {}
        self._steps = []

    def number_of(self, term):
        """Return the number of the term, which is put with all its parts if it is not there yet."""
        if isinstance(term, str):
            head = (term,)
        else:
            head = (term[0],) + tuple([self.number_of(argument) for argument in term[1:]])
        if head not in self._numbers:
            self._numbers[head] = len(self.heads)
            self.heads.append(head)
            self.terms.append(term)
            self.classes.append(len(self.classes))
            self._steps.append([])
        return self._numbers[head]

    def key_of(self, number):
        """Return what the term and each application of the same symbol to equal arguments have in common."""
        head = self.heads[number]
        arguments = [self.classes[argument] for argument in head[1:]]
        return head[:1] + tuple(sorted(arguments) if self.signature.is_two_way(head[0]) else arguments)

    def unite(self, one, two, reason):
        """Make one class of those of two terms, if they are not of one class already."""
        old, new = self.classes[one], self.classes[two]
        if old != new:
            self._steps[one].append((two, len(self.joinings), False))
            self._steps[two].append((one, len(self.joinings), True))
            self.joinings.append((one, two, reason))
            self.classes = [new if known == old else known for known in self.classes]

    def unite_all(self):
        """Join all applications of the same symbol to equal arguments."""
        before = -1
        while before < len(self.joinings):
            before = len(self.joinings)
            known = {}
            for number in range(len(self.heads)):
                other = known.setdefault(self.key_of(number), number)
                self.unite(number, other, self._reason(number, other))

    def way_between(self, one, two):
        """Return the joinings on the way between two terms of one class, as (index, whether it is taken backwards)."""
        before = {one: None}
        waiting = [one]
        while waiting:
            number = waiting.pop()
            for other, index, is_backwards in self._steps[number]:
                if other not in before:
                    before[other] = (number, index, is_backwards)
                    waiting.append(other)
        way = []
        number = two
        while number != one:
            number, index, is_backwards = before[number]
            way.append((index, is_backwards))
        return way[::-1]

    def _reason(self, one, two):
        for argument, other in zip(self.heads[one][1:], self.heads[two][1:]):
            if self.classes[argument] != self.classes[other]:
                return CROSSED
        return STRAIGHT


def closure_of(signature, row, equations):
    """Return the closure of the terms of the row by the equations."""
    for index, equation in enumerate(equations):
        if row_variables(equation):
            raise NotClosed(index)
    closure = Closure(signature)
    for term in row:
        closure.number_of(term)
    for index, (one, two) in enumerate(equations):
        closure.unite(closure.number_of(one), closure.number_of(two), index)
    closure.unite_all()
    return closure
