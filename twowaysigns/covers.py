"""Covers: which closed terms meet no pattern, several, or one that no earlier pattern has met."""

from twowaysigns.kinds import kinds_of, pattern_parts
from twowaysigns.parttables import PartTable


class Coverage:
    """The first closed term that meets no pattern, the first that meets two, and the first for each pattern."""

    def __init__(self, missed, doubled, reached):
        self.missed = missed
        self.doubled = doubled
        self.reached = reached


def coverage(signature, patterns):
    """Return what the patterns cover."""
    table = PartTable(signature, pattern_parts(signature, patterns))
    wanted = [table.index_of(pattern) for pattern in patterns]
    missed = None
    doubled = None
    reached = [None] * len(wanted)
    for kind, term in kinds_of(signature, patterns):
        met = [place for place, index in enumerate(wanted) if index is None or index in kind]
        if not met:
            missed = missed or term
        elif reached[met[0]] is None:
            reached[met[0]] = term
        if len(met) > 1:
            doubled = doubled or term
    return Coverage(missed, doubled, tuple(reached))
