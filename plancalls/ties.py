"""Ties: how the values of terms are written, and what the comparisons ahead of a place say of them."""

from plancalls.forms import Forms
from plancalls.outlines import Outline


def tie_of(plan, place, term):
    """Return the tie of a term at a place."""
    return Outline(plan).tie(term)


def conditions(plan, place):
    """Return the list of the conditions at a place, in order."""
    return Outline(plan).conditions(place)


def inner_ties(tie):
    """Return the ascending list of the different ties in a tie, itself among them."""
    forms = Forms()
    forms.number(tie)
    return sorted(forms.ties())


def loops_in(tie):
    """Return the ascending list of the different loops of the cells in a tie, itself among them."""
    return sorted({inner[1] for inner in inner_ties(tie) if inner[0] == "cell"})
