"""Orders of terms: by the weights of symbols, their ranks, and the arguments."""

from twowaysigns.errors import BadWeight
from twowaysigns.graphs import OPEN, graph_of, is_open
from twowaysigns.terms import parts_in_order


class Order:
    """A weight for each symbol of the signature, and the order of terms that it makes."""

    def __init__(self, signature, weights):
        for index, weight in enumerate(weights):
            if weight < 1:
                raise BadWeight(index)
        self.signature = signature
        self.weights = tuple(weights)

    def weight(self, term):
        """Return the sum of the weights of all symbols in the term; each variable adds 1."""
        return sum([1 if isinstance(part, str) else self.sign_weight(part[0]) for part in parts_in_order(term)])

    def compare(self, s, t):
        """Return how the terms compare: "alike", "greater", "less" or "apart"."""
        graph = graph_of(self.signature, [(OPEN, (s, t))])
        one, two = graph.rows[0]
        if one == two:
            return "alike"
        weighed = Weighed(self, graph)
        if weighed.is_greater(one, two):
            return "greater"
        return "less" if weighed.is_greater(two, one) else "apart"

    def sign_weight(self, name):
        """Return the weight of the symbol."""
        return self.weights[self.signature.rank(name)]


class Weighed:
    """The parts of a graph by number, with the weight of each and the number of its variables."""

    def __init__(self, order, graph):
        self.graph = graph
        self.weights = []
        self.occurrences = []
        for head in graph.heads:
            weight = 1 if is_open(head) else order.sign_weight(head[0])
            counts = {head[0]: 1} if is_open(head) else {}
            for argument in head[1:]:
                weight += self.weights[argument]
                for variable, many in self.occurrences[argument].items():
                    counts[variable] = counts.get(variable, 0) + many
            self.weights.append(weight)
            self.occurrences.append(counts)

    def is_greater(self, one, two):
        """Tell whether the first part is greater than the second one."""
        if one == two or not self._has_the_variables(one, two):
            return False
        if self.weights[one] != self.weights[two]:
            return self.weights[one] > self.weights[two]
        (name, *ones), (other_name, *twos) = self.graph.heads[one], self.graph.heads[two]
        if is_open((name,)) or is_open((other_name,)):
            return False
        if name != other_name:
            return self.graph.signature.rank(name) > self.graph.signature.rank(other_name)
        if self.graph.signature.is_two_way(name):
            return self._has_greater_sides(ones, twos)
        unlike = [(first, second) for first, second in zip(ones, twos) if first != second]
        return self.is_greater(unlike[0][0], unlike[0][1])

    def _has_the_variables(self, one, two):
        """Tell whether no variable occurs more often in the second part than in the first one."""
        counts = self.occurrences[one]
        return all([many <= counts.get(variable, 0) for variable, many in self.occurrences[two].items()])

    def _has_greater_sides(self, ones, twos):
        for place, first in enumerate(ones):
            if first in twos:
                return self.is_greater(ones[1 - place], twos[1 - twos.index(first)])
        return all([self.is_greater(ones[0], second) or self.is_greater(ones[1], second) for second in twos])
