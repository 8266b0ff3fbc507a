"""Telling back: wishes that are met by just the rows of a book."""

from twowaysigns.errors import NoSuchSymbol
from twowaysigns.wishes import Wishes


def told_back(book, *, two_way, pair):
    """Return wishes for which the book is the book of the widest rows."""
    if not book.signature.is_two_way(two_way):
        raise NoSuchSymbol(two_way)
    if book.signature.arity(pair) != 2 or book.signature.is_two_way(pair):
        raise NoSuchSymbol(pair)
    asked = tuple([f"X{place + 1}" for place in range(book.width)])
    rows = [_as_one_term(pair, row) for row in book.rows]
    return Wishes(book.signature, asked, _pairs(two_way, pair, _as_one_term(pair, asked), rows))


def _as_one_term(pair, row):
    term = row[-1]
    for before in row[-2::-1]:
        term = (pair, before, term)
    return term


def _pairs(two_way, pair, asked, rows):
    if not rows:
        return [((two_way, asked, asked), (pair, asked, asked))]
    pairs = []
    wanted = asked
    for index, row in enumerate(rows[:-1]):
        # With these sides turned one way, what is wanted is the row. Turned the other way, it is
        # what the next pair says, and the row is left to the first helper. The rows may share
        # variables: only one of them is asked for, and the helpers take the others as they are.
        left, behind = f"L{index + 1}", f"N{index + 1}"
        pairs.append(((two_way, wanted, left), (two_way, row, behind)))
        wanted = behind
    return pairs + [(wanted, rows[-1])]
