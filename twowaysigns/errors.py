"""The errors that the program raises, each with the fields that DOC.md lists for it."""


class TwoWayError(ValueError):
    """The base class of all errors of the program."""


class BadSymbol(TwoWayError):
    """A triple of a signature is not a symbol."""

    def __init__(self, index):
        self.index = index


class BadTerm(TwoWayError):
    """A value is not a term: the first bad part stands at the place."""

    def __init__(self, place):
        self.place = place


class BadPlace(TwoWayError):
    """A term has no such place, or the place does not fit there."""

    def __init__(self, place):
        self.place = place


class UnknownName(TwoWayError):
    """A name is neither a variable nor the name of a symbol."""

    def __init__(self, name):
        self.name = name


class WrongCount(TwoWayError):
    """A name was put with a wrong number of arguments."""

    def __init__(self, name, count):
        self.name = name
        self.count = count


class NoTerm(TwoWayError):
    """No term on the shelf has this number."""

    def __init__(self, number):
        self.number = number


class TooLarge(TwoWayError):
    """A shared term is too large to be written out."""

    def __init__(self, size):
        self.size = size


class BadAsked(TwoWayError):
    """An asked variable is not a variable or is asked twice."""

    def __init__(self, index):
        self.index = index


class BadLine(TwoWayError):
    """A line is not one of the lines that may stand there."""

    def __init__(self, index):
        self.index = index


class BadWidth(TwoWayError):
    """A row has another width than it must have."""

    def __init__(self, index):
        self.index = index


class BooksDiffer(TwoWayError):
    """Two sides have different signatures or widths."""


class NoSuchSymbol(TwoWayError):
    """The signature has no symbol of this name and kind."""

    def __init__(self, name):
        self.name = name


class SayingsDiffer(TwoWayError):
    """Two sayings have different signatures or asked variables."""


class HasHelpers(TwoWayError):
    """A list of wishes has helpers where none may be."""


class FewClosedTerms(TwoWayError):
    """The signature lacks a constant or a symbol with arguments."""


class NotAPattern(TwoWayError):
    """A variable occurs twice in a term that must be a pattern."""

    def __init__(self, index):
        self.index = index


class BadKind(TwoWayError):
    """An item is not a kind."""

    def __init__(self, index):
        self.index = index


class BadWeight(TwoWayError):
    """A weight is less than 1."""

    def __init__(self, index):
        self.index = index


class NotFalling(TwoWayError):
    """The left side of a rule is not greater than its right side."""

    def __init__(self, index):
        self.index = index


class BadTable(TwoWayError):
    """A table of a world does not fit its symbol."""

    def __init__(self, index):
        self.index = index


class MissingValue(TwoWayError):
    """A variable of the term has no value."""

    def __init__(self, variable):
        self.variable = variable


class NotClosed(TwoWayError):
    """A variable occurs in an equation that must be closed."""

    def __init__(self, index):
        self.index = index


class BadText(TwoWayError):
    """A text is wrong behind this many characters."""

    def __init__(self, column):
        self.column = column


class UnknownVariable(TwoWayError):
    """A variable is not asked."""

    def __init__(self, variable):
        self.variable = variable


class NoRowLeft(TwoWayError):
    """With this deed no row would be left."""


class BadMark(TwoWayError):
    """Not as many deeds stand as the mark says."""

    def __init__(self, mark):
        self.mark = mark
