"""Sayings: lists of wishes joined by and, or, not."""

from twowaysigns.errors import SayingsDiffer
from twowaysigns.solving import meets

LIST = "list"
NOT = "not"
AND = "and"
OR = "or"


class Saying:
    """A list of wishes, or what the operators build from sayings.

    The steps tell how it is built: LIST takes the next list, the others join what was taken last.
    """

    def __init__(self, wishes):
        self.signature = wishes.signature
        self.asked = wishes.asked
        self._lists = (wishes,)
        self._steps = (LIST,)

    @property
    def lists(self):
        """The lists of wishes from which the saying is built, from left to right."""
        return self._lists

    def is_met(self, row):
        """Tell whether the row meets the saying."""
        return len(row) == len(self.asked) and self.verdict([meets(wishes, row) for wishes in self._lists])

    def verdict(self, met):
        """Tell whether rows meet the saying that meet just those lists for which True is passed."""
        stack = []
        taken = 0
        for step in self._steps:
            if step == LIST:
                stack.append(met[taken])
                taken += 1
            elif step == NOT:
                stack.append(not stack.pop())
            else:
                second = stack.pop()
                first = stack.pop()
                stack.append(first and second if step == AND else first or second)
        return stack[0]

    def __and__(self, other):
        return _joined(self, other, AND)

    def __or__(self, other):
        return _joined(self, other, OR)

    def __invert__(self):
        return _built(self, self._lists, self._steps + (NOT,))


def _joined(one, two, step):
    if one.signature != two.signature or one.asked != two.asked:
        raise SayingsDiffer()
    return _built(one, one.lists + two.lists, one._steps + two._steps + (step,))


def _built(saying, lists, steps):
    """Return a saying with the same signature and asked variables, but other lists and steps."""
    built = Saying(saying.lists[0])
    built._lists = lists
    built._steps = steps
    return built
