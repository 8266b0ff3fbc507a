"""Closed terms: all of them by size, and how many there are."""

from twowaysigns.terms import sign_order


class ClosedTerms:
    """The least writings of the closed terms in the order by size, made as far as they are asked for."""

    def __init__(self, signature):
        self.signature = signature
        self._by_size = [[]]
        self._terms = []

    def term_at(self, index):
        """Return the term with this index; it must be known that there are so many."""
        while len(self._terms) <= index:
            keyed = _keyed_terms(self.signature, self._by_size)
            self._by_size.append(keyed)
            self._terms.extend([term for _, term in keyed])
        return self._terms[index]


def closed_terms(signature, size):
    """Yield the least writings of all closed terms of the size, in the order of terms."""
    by_size = [[]]
    while len(by_size) <= size:
        by_size.append(_keyed_terms(signature, by_size))
    for _, term in by_size[size]:
        yield term


def count_closed(signature, size):
    """Return the number of closed terms of the size, alike ones counted once."""
    counts = [0]
    while len(counts) <= size:
        counts.append(_count_of_next_size(signature, counts))
    return counts[size]


def _keyed_terms(signature, by_size):
    """Return a pair of order string and term for each closed term of the next size, in order.

    The list that is passed has such lists for all smaller sizes.
    """
    size = len(by_size)
    found = []
    for name, arity, two_way in signature.symbols:
        mark = sign_order(signature, (name,))
        if arity == 0 and size == 1:
            found.append((mark, (name,)))
        if arity == 1:
            found.extend([(mark + key, (name, term)) for key, term in by_size[size - 1]])
        if arity == 2:
            for ones, twos in _split_sizes(by_size):
                found.extend([(mark + key + other_key, (name, term, other)) for key, term in ones
                              for other_key, other in twos if not two_way or key <= other_key])
    return sorted(found, key=lambda keyed: keyed[0])


def _count_of_next_size(signature, counts):
    size = len(counts)
    ordered = sum([one * two for one, two in _split_sizes(counts)])
    even = counts[size // 2] if size - 1 == 2 * (size // 2) else 0
    total = 0
    for _, arity, two_way in signature.symbols:
        if arity == 0 and size == 1:
            total += 1
        if arity == 1:
            total += counts[size - 1]
        if arity == 2:
            total += (ordered + even) // 2 if two_way else ordered
    return total


def _split_sizes(by_size):
    """Return the pairs of what is kept for two sizes that make up the next size together with one symbol."""
    total = len(by_size) - 1
    return [(by_size[left], by_size[total - left]) for left in range(1, total)]
