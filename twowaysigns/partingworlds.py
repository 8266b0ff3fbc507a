"""Parting worlds: finite worlds in which two terms have different values."""

from twowaysigns.closures import closure_of
from twowaysigns.names import in_variable_order
from twowaysigns.terms import row_variables
from twowaysigns.worlds import World, place_in_table, table_length


def parting_world(signature, one, two, *, given=()):
    """Return a world in which the given equations hold, and values for which two terms differ there; None if none.

    Its things are the classes of equal terms among those that are said, and one thing more that
    all other terms are.
    """
    closure = closure_of(signature, (one, two), given)
    if closure.classes[closure.number_of(one)] == closure.classes[closure.number_of(two)]:
        return None
    things = {known: thing for thing, known in enumerate(sorted(set(closure.classes)))}
    tables = _tables(closure, things)
    values = [(variable, things[closure.classes[closure.number_of(variable)]])
              for variable in in_variable_order(row_variables((one, two)))]
    return World(signature, len(things) + 1, tables), tuple(values)


def _tables(closure, things):
    """Return the table of each symbol."""
    rest = len(things)
    size = rest + 1
    tables = [[rest] * table_length(size, arity) for _, arity, _ in closure.signature.symbols]
    for number, head in enumerate(closure.heads):
        rank = closure.signature.rank(head[0])
        if rank is not None:
            arguments = [things[closure.classes[argument]] for argument in head[1:]]
            orders = [arguments, arguments[::-1]] if closure.signature.is_two_way(head[0]) else [arguments]
            for order in orders:
                tables[rank][place_in_table(size, order)] = things[closure.classes[number]]
    return tables
