"""Worlds: finitely many things, and tables that tell what the symbols make of them."""

from twowaysigns.errors import BadTable, MissingValue
from twowaysigns.names import in_variable_order
from twowaysigns.terms import row_variables


class World:
    """Things, numbered from 0, and a table for each symbol."""

    def __init__(self, signature, size, tables):
        for index, (_, arity, two_way) in enumerate(signature.symbols):
            if not _is_table(size, arity, two_way, tables[index]):
                raise BadTable(index)
        self.signature = signature
        self.size = size
        self.tables = tuple([tuple(table) for table in tables])

    def value(self, term, values):
        """Return the thing that the term stands for."""
        named = {variable: thing for variable, thing in values}
        for variable in row_variables((term,)):
            if variable not in named:
                raise MissingValue(variable)
        return self._thing(term, named)

    def counter(self, pair):
        """Return the first values for which the sides of the pair differ, None if there are none."""
        variables = in_variable_order(row_variables(pair))
        choices = [()]
        for variable in variables:
            choices = [chosen + ((variable, thing),) for chosen in choices for thing in range(self.size)]
        one, two = pair
        for chosen in choices:
            if self.value(one, chosen) != self.value(two, chosen):
                return chosen
        return None

    def holds(self, pair):
        """Tell whether the sides of the pair have the same value for all values of its variables."""
        return self.counter(pair) is None

    def _thing(self, term, named):
        if isinstance(term, str):
            return named[term]
        things = [self._thing(argument, named) for argument in term[1:]]
        return self.tables[self.signature.rank(term[0])][place_in_table(self.size, things)]


def table_length(size, arity):
    """Return the number of items of a table for a symbol with this arity."""
    length = 1
    for _ in range(arity):
        length = length * size
    return length


def place_in_table(size, things):
    """Return the index in a table that belongs to these arguments."""
    place = 0
    for thing in things:
        place = place * size + thing
    return place


def _is_table(size, arity, two_way, table):
    if len(table) != table_length(size, arity):
        return False
    for thing in table:
        if not 0 <= thing < size:
            return False
    return not two_way or _is_even(size, table)


def _is_even(size, table):
    """Tell whether the table of two arguments tells the same when they are exchanged."""
    for one in range(size):
        for two in range(one):
            if table[one * size + two] != table[two * size + one]:
                return False
    return True
