"""Deriving: lines which show that terms are alike, or that a term equals its end."""

from twowaysigns.derivations import Derivation, alike_line, end_line
from twowaysigns.sides import are_alike


def derive_alike(signature, one, two):
    """Return a derivation of the pair of two alike terms, None if they are not alike."""
    if not are_alike(signature, one, two):
        return None
    derivation = Derivation(signature)
    return derivation.lines_to(alike_line(derivation, one, two))


def derive_end(rules, term):
    """Return a derivation of the pair of the term and its end; the axioms are the rules."""
    derivation = Derivation(rules.order.signature)
    axioms = [derivation.axiom(index, pair) for index, pair in enumerate(rules.pairs)]
    return derivation.lines_to(end_line(derivation, axioms, rules, term))
