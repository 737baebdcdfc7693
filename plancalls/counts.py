"""Counts: which loops settle a place, and how often a call is made at most."""

from plancalls.errors import Unknown
from plancalls.outlines import Outline


def settling(plan, place):
    """Return the ascending list of the least sets of loops by which all open loops at a place are settled."""
    return settling_sets(Outline(plan), place)


def bound(plan, answer, sizes):
    """Return how often the call with an answer is made at most, in contents with tables of at most these sizes."""
    if answer not in plan.answers():
        raise Unknown(answer)
    place = plan.place_of(answer)
    outline = Outline(plan)
    if outline.clashes(place):
        return 0
    many = {loop: sizes.get(plan.table_of(loop), 0) for loop in plan.open_at(place)}
    # A table without rows ends the loops over it, whatever settles them.
    if 0 in list(many.values()):
        return 0
    return min([product_of([many[loop] for loop in loops]) for loops in settling_sets(outline, place)])


def settling_sets(outline, place):
    """Return the ascending list of the least sets of loops by which all open loops at a place are settled."""
    loops = sorted(outline.plan().open_at(place))
    found = [some for some in subsets(loops) if len(outline.settled_by(place, some)) == len(loops)]
    return sorted([some for some in found if not has_less(found, some)])


def has_less(found, some):
    """Return whether one loop of a set can be left out such that the rest is found, too."""
    return any([tuple([name for name in some if name != loop]) in found for loop in some])


def subsets(names):
    """Return the list of the tuples of some of the names, in their order."""
    found = [()]
    for name in names:
        found = found + [(*some, name) for some in found]
    return found


def product_of(numbers):
    """Return the product of numbers, 1 for none."""
    product = 1
    for number in numbers:
        product = product * number
    return product
