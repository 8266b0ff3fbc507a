"""Notes: texts of lists of wishes."""

from twowaysigns.errors import BadText
from twowaysigns.names import LONGEST_VARIABLE
from twowaysigns.texts import Reader, format_term
from twowaysigns.wishes import Wishes

MOST_ASKED = 4


def format_wishes(wishes):
    """Return the text of the wishes."""
    pairs = [f" {format_term(one)} = {format_term(two)}" for one, two in wishes.pairs]
    return ", ".join(wishes.asked) + ":" + ";".join(pairs)


def parse_wishes(signature, text):
    """Return the wishes whose text it is."""
    reader = Reader(signature, text)
    asked = [_read_asked(reader, [])]
    while len(asked) < MOST_ASKED and reader.is_next(","):
        reader.read(", ")
        asked.append(_read_asked(reader, asked))
    reader.read(":")
    pairs = []
    while not reader.is_at_end():
        reader.read(";" if pairs else "")
        reader.read(" ")
        one = reader.read_term()
        reader.read(" = ")
        pairs.append((one, reader.read_term()))
    return Wishes(signature, asked, pairs)


def _read_asked(reader, before):
    """Read an asked variable that does not stand before and return it."""
    variable = reader.read_variable()
    if variable in before:
        # With another digit behind it, it could be a new one, if it is not too long for that.
        raise BadText(reader.column - (1 if len(variable) == LONGEST_VARIABLE else 0))
    return variable
