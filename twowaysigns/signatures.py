"""Signatures: the symbols of which terms are built."""

from twowaysigns.errors import BadSymbol
from twowaysigns.names import is_symbol_name


class Signature:
    """The symbols, each with its arity and whether it is two-way."""

    def __init__(self, symbols):
        ranks = {}
        for index, (name, arity, two_way) in enumerate(symbols):
            if name in ranks or not _is_symbol(name, arity, two_way):
                raise BadSymbol(index)
            ranks[name] = index
        self.symbols = tuple(symbols)
        self._ranks = ranks

    def arity(self, name):
        """Return the number of arguments of the symbol, None if there is no such symbol."""
        rank = self._ranks.get(name)
        return None if rank is None else self.symbols[rank][1]

    def rank(self, name):
        """Return the index of the symbol, None if there is no such symbol."""
        return self._ranks.get(name)

    def is_two_way(self, name):
        """Tell whether the name is that of a two-way symbol."""
        rank = self._ranks.get(name)
        return rank is not None and self.symbols[rank][2]

    def __eq__(self, other):
        return isinstance(other, Signature) and self.symbols == other.symbols


def _is_symbol(name, arity, two_way):
    return is_symbol_name(name) and 0 <= arity <= 2 and (arity == 2 or not two_way)
