"""Layers: sets of rows, told by one falling sequence of books."""

from twowaysigns.books import Book, check_fit, widest_row
from twowaysigns.errors import BooksDiffer
from twowaysigns.falling import all_counts, falling_books
from twowaysigns.solving import widest


class Layers:
    """All rows of the width that are in an odd number of the books that are passed."""

    def __init__(self, signature, width, books):
        for book in books:
            if book.signature != signature or book.width != width:
                raise BooksDiffer()
        self.signature = signature
        self.width = width
        chains = _chains_of(books)
        verdicts = {counts: sum(counts) % 2 == 1 for counts in all_counts(chains)}
        self.books = falling_books(Book(signature, width, (widest_row(width),)), chains, verdicts)

    @classmethod
    def of(cls, saying):
        """Return the set of all rows that meet the saying."""
        return layers_of(saying)

    @property
    def is_empty(self):
        """True if no row is in the set, otherwise False."""
        return len(self.books) == 0

    def within(self, other):
        """Tell whether every row of this set is in the other one."""
        return (self - other).is_empty

    def __contains__(self, row):
        return len([book for book in self.books if row in book]) % 2 == 1

    def __and__(self, other):
        return _combined(self, other, (False, False, False, True))

    def __or__(self, other):
        return _combined(self, other, (False, True, True, True))

    def __sub__(self, other):
        return _combined(self, other, (False, False, True, False))

    def __xor__(self, other):
        return _combined(self, other, (False, True, True, False))

    def __invert__(self):
        chains = [self.books]
        verdicts = {counts: counts[0] % 2 == 0 for counts in all_counts(chains)}
        return _set_of_rows(self.signature, self.width, chains, verdicts)

    def __eq__(self, other):
        if not isinstance(other, Layers):
            return False
        return self.signature == other.signature and self.width == other.width and self.books == other.books


def layers_of(saying):
    """Return the set of all rows that meet the saying."""
    chains = [[widest(wishes)] for wishes in saying.lists]
    verdicts = {counts: saying.verdict([many == 1 for many in counts]) for counts in all_counts(chains)}
    return _set_of_rows(saying.signature, len(saying.asked), chains, verdicts)


def parting(one, two):
    """Return a row that is in exactly one of two sets, None if they are equal."""
    books = (one ^ two).books
    return books[0].rows[0] if books else None


def _chains_of(books):
    """Return lists of the books, each of them within the one before it in its list."""
    chains = []
    for book in books:
        index = _chain_around(book, chains)
        if index is None:
            chains.append([book])
        else:
            chains[index] = chains[index] + [book]
    return chains


def _chain_around(book, chains):
    for index, chain in enumerate(chains):
        if book.within(chain[-1]):
            return index
    return None


def _combined(one, two, table):
    """Return the set of rows that are in two sets as the table says: in none, the second, the first, both."""
    check_fit(one, two)
    chains = [one.books, two.books]
    verdicts = {(many, others): table[2 * (many % 2) + others % 2] for many, others in all_counts(chains)}
    return _set_of_rows(one.signature, one.width, chains, verdicts)


def _set_of_rows(signature, width, chains, verdicts):
    layers = Layers(signature, width, ())
    layers.books = falling_books(Book(signature, width, (widest_row(width),)), chains, verdicts)
    return layers
