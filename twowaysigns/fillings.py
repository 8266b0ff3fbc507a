"""Fillings: terms for variables, put into terms and rows."""

from twowaysigns.names import in_variable_order


def fill_term(term, filling):
    """Return the term in which the variables of the filling are replaced, all at once."""
    return _replaced(term, {variable: new for variable, new in filling})


def fill_row(row, filling):
    """Return the row in whose terms the variables of the filling are replaced, all at once."""
    named = {variable: new for variable, new in filling}
    return tuple([_replaced(term, named) for term in row])


def composed(one, two):
    """Return the filling that does what the first one does and then the second one."""
    news = {variable: new for variable, new in two}
    for variable, new in one:
        news[variable] = fill_term(new, two)
    return tuple([(name, news[name]) for name in in_variable_order(news) if news[name] != name])


def _replaced(term, named):
    if isinstance(term, str):
        return named.get(term, term)
    return (term[0],) + tuple([_replaced(argument, named) for argument in term[1:]])
