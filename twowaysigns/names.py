"""Symbol names and variables: which strings they are, and the order of variables."""

SMALL_LETTERS = "abcdefghijklmnopqrstuvwxyz"
GREAT_LETTERS = "ABCDEFGHIJKLMNOPQRSTUVWXYZ"
DIGITS = "0123456789"
LONGEST_VARIABLE = 6


def is_symbol_name(text):
    """Tell whether the string is a symbol name."""
    return 1 <= len(text) <= 8 and text[0] in SMALL_LETTERS and _consists_of(text[1:], SMALL_LETTERS + DIGITS)


def is_variable(text):
    """Tell whether the string is a variable."""
    return 1 <= len(text) <= LONGEST_VARIABLE and text[0] in GREAT_LETTERS and _consists_of(text[1:], DIGITS)


def in_variable_order(variables):
    """Return the variables as a tuple in the order of variables."""
    keyed = sorted([(len(variable), variable) for variable in variables])
    return tuple([name for _, name in keyed])


def _consists_of(text, allowed):
    for character in text:
        if character not in allowed:
            return False
    return True
