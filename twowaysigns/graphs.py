"""Graphs: rows whose parts are numbered, so that a part that occurs often is looked at but once."""

from twowaysigns.names import GREAT_LETTERS
from twowaysigns.terms import parts_in_order

# A mark stands before the name of each variable of a row. Variables of rows with different marks
# are different ones; frozen variables are never replaced, as if they were constants.
OPEN = "A"
OTHER = "B"
FROZEN = "."


class Graph:
    """The parts by number, each behind its arguments; parts that are alike have one number.

    The head of a part is the name of its sign, followed by the numbers of its arguments. A part is
    closed if no variable that may be replaced occurs in it. Each row is the numbers of its terms.
    """

    def __init__(self, signature, heads, rows):
        self.signature = signature
        self.heads = heads
        self.rows = rows
        self.closed = _closed_parts(heads)


def graph_of(signature, marked_rows):
    """Return the graph of rows of any width, each passed as a pair of its mark and the row."""
    heads = []
    numbers = {}
    rows = []
    for mark, row in marked_rows:
        known = []
        # Read backwards, an application comes when the numbers of its arguments lie on top.
        for part in reversed([part for term in row for part in parts_in_order(term)]):
            head = (mark + part,) if isinstance(part, str) else (part[0],) + tuple(known[:-len(part):-1])
            if signature.is_two_way(head[0]):
                head = head[:1] + tuple(sorted(head[1:]))
            if head not in numbers:
                numbers[head] = len(heads)
                heads.append(head)
            known = known[:len(known) - len(head) + 1] + [numbers[head]]
        rows.append(tuple(known[::-1]))
    return Graph(signature, heads, rows)


def is_open(head):
    """Tell whether the head is that of a variable that may be replaced."""
    return head[0][0] in GREAT_LETTERS


def _closed_parts(heads):
    closed = []
    for head in heads:
        closed.append(not is_open(head) and all([closed[argument] for argument in head[1:]]))
    return closed
