"""Trials: cases built to part two plans, tried one after another."""

from plancalls.bonds import is_entailed, with_claim
from plancalls.builds import Build, row_of
from plancalls.contrasts import differ
from plancalls.doubles import doubled, second_row, shared_loops
from plancalls.models import case_at
from plancalls.scripts import scripted_case
from plancalls.sites import streams


def case_of_sides(sides):
    """Return the first case found with which the records of two plans differ, None if they are alike."""
    for which in (0, 1):
        for stream, index in spots(sides):
            case = case_at_spot(sides, which, sides.places(stream, index))
            if case is not None:
                return case
    return None


def spots(sides):
    """Return the list of the tuples (stream, index) of the first difference in each stream that has one."""
    found = []
    for stream in streams(sides.plan(0)):
        for index in range(sides.most(stream)):
            if sides.difference(stream, index) is not None:
                found.append((stream, index))
                break
    return found


def case_at_spot(sides, which, places):
    """Return a case that reaches a site of one of the plans and parts it from that of the other one, or None."""
    place, other_place = places[which], places[1 - which]
    if place is None:
        return None
    outline = sides.outline(which)
    bonds = outline.bonds(place)
    case = tried(sides, case_at(outline, bonds)[0])
    if case is not None or other_place is None:
        return case
    for claim in sides.claims(1 - which, other_place) + (sides.argument_claims(which, place, other_place) or []):
        if case is None and not is_entailed(bonds, claim):
            case = tried(sides, case_at(outline, with_claim(bonds, claim))[0])
    if case is None:
        case = case_of_orders(sides, which, place, other_place)
    return case


def tried(sides, case):
    """Return a case if the records of the plans differ on it, otherwise None."""
    return case if differ(sides.plan(0), sides.plan(1), case) else None


def case_of_orders(sides, which, place, other_place):
    """Return a case with two points at which the plans are in different order, or None."""
    own = sides.outline(which).order_keys(place)
    others = sides.order_keys(1 - which, other_place)
    many = sides.shared_keys(which, place, other_place)
    bonds = doubled(sides.outline(which), place, own[:many])
    # The first point comes first by the own key, the second one by the other plan's key.
    first = own[many:many + 1] + [second_row(row, shared_loops(own[:many])) for row in others[many:many + 1]]
    for row in first:
        if row[0] == "row":
            bonds.number(row[2])
    bonds.settle()
    build = Build(sides.plan(0).schema, bonds, [row_told(sides, bonds, row) for row in first])
    return tried(sides, scripted_case(sides.outline(which), build))


def row_told(sides, bonds, row):
    """Return the row of an order key as a Build tells it."""
    if row[0] == "loop":
        return row_of(sides.plan(0).schema, bonds, row[1])
    return (row[1], bonds.head_of(row[2]))
