"""Books: all cases of finitely many rows."""

from twowaysigns.errors import BadWidth, BooksDiffer
from twowaysigns.joining import common_rows
from twowaysigns.matching import is_case
from twowaysigns.tellings import least_telling
from twowaysigns.terms import row_order, row_variables, size_of


class Book:
    """All cases of the rows that are passed, told by the widest of these rows."""

    def __init__(self, signature, width, rows):
        for index, row in enumerate(rows):
            if len(row) != width:
                raise BadWidth(index)
        self.signature = signature
        self.width = width
        self.rows = _told_in_order(signature, _widest_of(signature, rows))

    @classmethod
    def nothing(cls, signature, width):
        """Return the book without rows."""
        return cls(signature, width, ())

    @classmethod
    def everything(cls, signature, width):
        """Return the book of all rows of the width."""
        return cls(signature, width, (widest_row(width),))

    @property
    def is_empty(self):
        """True if the book has no rows, otherwise False."""
        return len(self.rows) == 0

    def within(self, other):
        """Tell whether every row of this book is in the other one."""
        check_fit(self, other)
        for row in self.rows:
            if row not in other:
                return False
        return True

    def __contains__(self, row):
        return _is_case_of_one(self.signature, row, self.rows)

    def __or__(self, other):
        check_fit(self, other)
        return Book(self.signature, self.width, self.rows + other.rows)

    def __and__(self, other):
        check_fit(self, other)
        rows = []
        others = []
        for row in other.rows:
            if row in self:
                rows.append(row)
            else:
                others.append(row)
        for row in self.rows:
            if row in other:
                rows.append(row)
            else:
                for unlike in others:
                    rows.extend(common_rows(self.signature, row, unlike))
        return Book(self.signature, self.width, rows)

    def __eq__(self, other):
        if not isinstance(other, Book):
            return False
        return self.signature == other.signature and self.width == other.width and self.rows == other.rows

    def __len__(self):
        return len(self.rows)

    def __iter__(self):
        return iter(self.rows)


def widest_row(width):
    """Return the row of which all rows of the width are cases."""
    return tuple([f"V{place + 1}" for place in range(width)])


def check_fit(one, two):
    """Raise BooksDiffer if two books, or two sets of rows, have different signatures or widths."""
    if one.signature != two.signature or one.width != two.width:
        raise BooksDiffer()


def wider_first(rows):
    """Return the rows as a list in which each one stands before those of its cases that are not as wide."""
    # Such a case is larger, or it is as large and has fewer variables.
    counted = sorted([(sum([size_of(term) for term in row]), -len(row_variables(row)), index)
                      for index, row in enumerate(rows)])
    return [rows[index] for _, _, index in counted]


def _is_case_of_one(signature, row, patterns):
    for pattern in patterns:
        if is_case(signature, row, pattern):
            return True
    return False


def _widest_of(signature, rows):
    """Return those rows that are no cases of others; of rows that are as wide as each other, one."""
    widest = []
    for row in wider_first(rows):
        if not _is_case_of_one(signature, row, widest):
            widest.append(row)
    return widest


def _told_in_order(signature, rows):
    keyed = {}
    for row in rows:
        told = least_telling(signature, row)
        keyed[row_order(signature, told)] = told
    return tuple([keyed[key] for key in sorted(keyed)])
