"""Tables of parts of patterns: they tell the kind of an application by its symbol and the kinds of its arguments."""

from twowaysigns.tellings import least_telling
from twowaysigns.terms import term_order


class PartTable:
    """Parts of patterns by their indexes, each with the indexes of its own arguments among them."""

    def __init__(self, signature, parts):
        indexes = {term_order(signature, part): index for index, part in enumerate(parts)}
        self.signature = signature
        self._indexes = indexes
        self._wanted = {}
        for index, part in enumerate(parts):
            wanted = tuple([self.index_of(argument) for argument in part[1:]])
            self._wanted[part[0]] = self._wanted.get(part[0], []) + [(index, wanted)]

    def index_of(self, part):
        """Return the index of a part of a pattern, None if it is a variable."""
        if isinstance(part, str):
            return None
        return self._indexes[term_order(self.signature, told_part(self.signature, part))]

    def kind_of_application(self, name, kinds):
        """Return the kind of an application whose arguments have these kinds."""
        orders = [kinds, kinds[::-1]] if self.signature.is_two_way(name) else [kinds]
        wanted_by_index = self._wanted.get(name, [])
        return tuple([index for index, wanted in wanted_by_index if any([_fits(order, wanted) for order in orders])])


def told_part(signature, part):
    """Return the term of the least telling of the part."""
    return least_telling(signature, (part,))[0]


def _fits(kinds, wanted):
    return all([index is None or index in kind for kind, index in zip(kinds, wanted)])
