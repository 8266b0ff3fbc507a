"""Meetings: the terms that two rules change in two ways, and whether both ways have the same end."""

from twowaysigns.fillings import fill_row
from twowaysigns.rules import end_of
from twowaysigns.sides import are_alike
from twowaysigns.solving import book_of_cases
from twowaysigns.terms import part_at, parts_with_places, replaced_at, row_order, row_variables


class MeetingTable:
    """Finds meetings of rules; those of two rules are worked out but once, however often they are asked for."""

    def __init__(self, signature):
        self.signature = signature
        self._known = {}

    def meetings(self, pairs):
        """Return the meetings of the rules, in order."""
        found = []
        for i, rule in enumerate(pairs):
            for place, part in parts_with_places(rule[0]):
                if not isinstance(part, str):
                    for j, other in enumerate(pairs):
                        found.extend([(i, place, j) + row for row in self._rows(rule, place, other)])
        return tuple(found)

    def _rows(self, rule, place, other):
        key = (row_order(self.signature, rule), place, row_order(self.signature, other))
        if key not in self._known:
            self._known[key] = _meeting_rows(self.signature, rule, place, other)
        return self._known[key]


def meetings_of(rules):
    """Return all meetings of the rules as (i, place, j, peak, one, two)."""
    return MeetingTable(rules.order.signature).meetings(rules.pairs)


def two_ends(rules):
    """Return the first peak from which the rules lead to two ends, and these; None if there is none."""
    for _, _, _, peak, one, two in meetings_of(rules):
        ends = (end_of(rules, one), end_of(rules, two))
        if ends[0] != ends[1]:
            return (peak,) + ends
    return None


def _meeting_rows(signature, rule, place, other):
    """Return what the two rules make of the terms in which the other rule fits at the place, as (peak, one, two)."""
    left, right = _renamed(rule, "A")
    other_left, other_right = _renamed(other, "B")
    row = (left, right, replaced_at(left, place, other_right))
    book = book_of_cases(signature, row, [(part_at(left, place), other_left)])
    return [(peak, one, two) for peak, one, two in book.rows if not are_alike(signature, one, two)]


def _renamed(rule, letter):
    """Return the rule with other variables, all of which begin with this letter."""
    return fill_row(rule, [(variable, f"{letter}{index}") for index, variable in enumerate(row_variables(rule))])
