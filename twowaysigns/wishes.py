"""Lists of wished likenesses."""

from twowaysigns.errors import BadAsked
from twowaysigns.names import is_variable
from twowaysigns.terms import row_variables


class Wishes:
    """The asked variables, and pairs of terms that are wished to become alike."""

    def __init__(self, signature, asked, pairs):
        check_asked(asked)
        self.signature = signature
        self.asked = tuple(asked)
        self.pairs = tuple(pairs)

    @property
    def helpers(self):
        """The variables in the pairs that are not asked, in the order of their first occurrences."""
        sides = [side for pair in self.pairs for side in pair]
        return tuple([variable for variable in row_variables(sides) if variable not in self.asked])


def check_asked(asked):
    """Raise BadAsked for the first string that is not a variable or that stands there before."""
    seen = {}
    for index, variable in enumerate(asked):
        if variable in seen or not is_variable(variable):
            raise BadAsked(index)
        seen[variable] = True
