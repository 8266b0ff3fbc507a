"""Texts of terms: writing and reading them."""

from twowaysigns.errors import BadText
from twowaysigns.names import DIGITS, GREAT_LETTERS, LONGEST_VARIABLE


class Reader:
    """A text and how many of its characters have been read.

    Each method reads as many of the next characters as may stand there and raises BadText behind
    them if something else is due.
    """

    def __init__(self, signature, text):
        self.signature = signature
        self.text = text
        self.column = 0

    def is_at_end(self):
        """Tell whether the whole text has been read."""
        return self.column == len(self.text)

    def is_next(self, characters):
        """Tell whether the next character is one of these."""
        return not self.is_at_end() and self.text[self.column] in characters

    def read(self, wanted):
        """Read these characters."""
        for character in wanted:
            if not self.is_next(character):
                raise BadText(self.column)
            self.column += 1

    def read_end(self):
        """Read nothing: the text must be at its end."""
        if not self.is_at_end():
            raise BadText(self.column)

    def read_variable(self):
        """Read a variable and return it."""
        if not self.is_next(GREAT_LETTERS):
            raise BadText(self.column)
        start = self.column
        self.column += 1
        while self.is_next(DIGITS) and self.column < start + LONGEST_VARIABLE:
            self.column += 1
        return self.text[start:self.column]

    def read_term(self):
        """Read a term and return it."""
        if self.is_next(GREAT_LETTERS):
            return self.read_variable()
        name = self._read_symbol()
        arguments = ()
        for index in range(self.signature.arity(name)):
            self.read(", " if index > 0 else "(")
            arguments = arguments + (self.read_term(),)
        if arguments:
            self.read(")")
        return (name,) + arguments

    def _read_symbol(self):
        start = self.column
        while not self.is_at_end() and self._begins_symbol(self.text[start:self.column + 1]):
            self.column += 1
        name = self.text[start:self.column]
        if self.signature.arity(name) is None:
            raise BadText(self.column)
        return name

    def _begins_symbol(self, beginning):
        return any([name.startswith(beginning) for name, _, _ in self.signature.symbols])


def format_term(term):
    """Return the text of the term."""
    if isinstance(term, str):
        return term
    if len(term) == 1:
        return term[0]
    arguments = ", ".join([format_term(argument) for argument in term[1:]])
    return f"{term[0]}({arguments})"


def parse_term(signature, text):
    """Return the term whose text it is."""
    reader = Reader(signature, text)
    term = reader.read_term()
    reader.read_end()
    return term
