"""Falling sequences: the one sequence of books that tells a set of rows."""

from twowaysigns.books import Book


def falling_books(everything, chains, verdicts):
    """Return the falling sequence of books for a set of rows.

    A chain is a sequence of books, each within the one before it. How many books of each chain a
    row is in decides whether it is in the set: the verdicts tell it for each tuple of counts.
    Everything is the book of all rows.
    """
    books = _alternating_books(everything, chains, verdicts)
    falling = []
    while books:
        first = _book_around(everything, books)
        if first.is_empty:
            break
        falling.append(first)
        # What this book has too much is in an odd number of the books behind, as far as it is in it.
        books = [first & book for book in books[1:]]
    return tuple(falling)


def all_counts(chains):
    """Return all tuples that tell of how many books of each chain a row may be in, in order."""
    found = [()]
    for chain in chains:
        found = [counts + (many,) for counts in found for many in range(len(chain) + 1)]
    return found


def _book_around(everything, books):
    """Return the least book with all rows that are in an odd number of the books.

    Each book is within the one before it. So the rows looked for are those in an odd one of them
    and not in the next one; and a widest row of a book has none of these as a case if it is in the
    next one itself.
    """
    behind = books[1:] + [Book(everything.signature, everything.width, ())]
    rows = [row for book, following in list(zip(books, behind))[::2] for row in book if row not in following]
    return Book(everything.signature, everything.width, rows)


def _alternating_books(everything, chains, verdicts):
    """Return books, each within the one before it; a row is in the set if it is in an odd number of them.

    A row is in as many of them as the verdict changes on the way from no book at all to all books
    of the chains that the row is in, taken one by one in the way with the most changes.
    """
    common = {(): everything}
    for chain in chains:
        common = _with_chain(common, chain)
    changes = {}
    rows = [[] for _ in range(len(common) + 1)]
    for counts in common:
        changes[counts] = _most_changes(counts, changes, verdicts)
        rows[changes[counts]] = rows[changes[counts]] + list(common[counts])
    return [Book(everything.signature, everything.width, found) for found in rows[1:] if found]


def _with_chain(common, chain):
    """Return a dict of the books of rows that are in at least so many books of each chain, if there are any.

    The keys tell how many; what is passed is such a dict for the chains before. Each key stands
    behind those with smaller counts.
    """
    found = {}
    for counts, book in common.items():
        found[counts + (0,)] = book
        for index, other in enumerate(chain):
            both = book & other
            if both.is_empty:
                break
            found[counts + (index + 1,)] = both
    return found


def _most_changes(counts, changes, verdicts):
    most = int(verdicts[counts])
    for index, many in enumerate(counts):
        if many > 0:
            before = counts[:index] + (many - 1,) + counts[index + 1:]
            most = max(most, changes[before] + int(verdicts[before] != verdicts[counts]))
    return most
