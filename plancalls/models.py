"""Models: cases in which a place is reached, and in which a claim is not true."""

from plancalls.bonds import is_entailed, with_claim
from plancalls.builds import Build
from plancalls.outlines import Outline
from plancalls.scripts import scripted_case


def reaching_case(plan, place):
    """Return a case and the numbers of the rows at which a place is reached, None if the conditions clash."""
    outline = Outline(plan)
    bonds = outline.bonds(place)
    if bonds.clashes():
        return None
    return case_at(outline, bonds)


def counter_case(plan, place, claim):
    """Return a case and numbers of rows at which a place is reached and a claim is not true, None if it is entailed."""
    outline = Outline(plan)
    bonds = outline.bonds(place)
    if is_entailed(bonds, claim):
        return None
    return case_at(outline, with_claim(bonds, claim))


def case_at(outline, bonds):
    """Return the case that shows Bonds, and the dict of the numbers of the rows at which the open loops are."""
    build = Build(outline.plan().schema, bonds)
    numbers = {loop: build.number_of(loop) for loop in bonds.tables()}
    return (scripted_case(outline, build), numbers)
