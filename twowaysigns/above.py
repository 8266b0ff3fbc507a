"""The nearest rows above several rows: what the rows have in common."""

from twowaysigns.books import wider_first
from twowaysigns.errors import BadWidth
from twowaysigns.matching import is_case
from twowaysigns.sides import is_two_way_part, likeness
from twowaysigns.tellings import least_telling
from twowaysigns.terms import row_order


def nearest_above(signature, rows):
    """Return the least tellings of all nearest rows above the rows, in order."""
    for index, row in enumerate(rows):
        if len(row) != len(rows[0]):
            raise BadWidth(index)
    told = {}
    for above in _rows_above(signature, rows, {}):
        telling = least_telling(signature, above)
        told[row_order(signature, telling)] = telling
    nearest = {}
    # Narrow rows first: what is above one of those that were found is not among the nearest.
    for row in reversed(wider_first(list(told.values()))):
        if not any([is_case(signature, other, row) for other in nearest.values()]):
            nearest[row_order(signature, row)] = row
    return tuple([nearest[key] for key in sorted(nearest)])


def _rows_above(signature, rows, names):
    """Return rows above the rows, among them all nearest ones.

    The names tell which variable stands above which parts, each told by its likeness; those that
    are missing are added. Above parts that are alike in each row there must be the same variable.
    """
    found = [()]
    for parts in zip(*rows):
        terms = _terms_above(signature, parts, names)
        found = [above + (term,) for above in found for term in terms]
    return found


def _terms_above(signature, parts, names):
    if not _have_one_symbol(parts):
        key = tuple([likeness(signature, part) for part in parts])
        return [names.setdefault(key, f"V{len(names) + 1}")]
    found = {}
    for rows in _argument_rows(signature, parts):
        for arguments in _rows_above(signature, rows, names):
            term = (parts[0][0],) + arguments
            found[likeness(signature, term)] = term
    return list(found.values())


def _have_one_symbol(parts):
    return all([not isinstance(part, str) and part[0] == parts[0][0] for part in parts])


def _argument_rows(signature, parts):
    """Return all ways to put the sides of the parts beside each other, as lists of rows of arguments."""
    found = [[parts[0][1:]]]
    for part in parts[1:]:
        orders = [part[1:], part[:0:-1]] if is_two_way_part(signature, part) else [part[1:]]
        found = [rows + [order] for rows in found for order in orders]
    return found
