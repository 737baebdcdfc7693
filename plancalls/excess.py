"""Excess: cases in which one plan makes a call more often than another one."""

from plancalls.bonds import is_entailed, with_claim
from plancalls.builds import Build
from plancalls.doubles import SECOND, doubled, shared_loops
from plancalls.models import case_at
from plancalls.puttings import bonds_with, claims_put, plain_rows
from plancalls.scripts import scripted_case


def case_of_more(one, other):
    """Return a case in which the Calling of one plan is made more often than the other one, as it can be."""
    rows = plain_rows(one, other) if other.is_made() else None
    if rows is None:
        # The other plan never comes to its call: not at all, or not without rows that the one needs no loop for.
        return case_at(one.outline(), one.bonds())[0]
    bonds = bonds_with(one, list(rows.values()))
    for claim in claims_put(one, other, rows):
        if not is_entailed(bonds, claim):
            return case_at(one.outline(), with_claim(bonds, claim))[0]
    return case_of_two(one, list(rows.values()))


def case_of_two(one, rows):
    """Return a case in which a Calling is made at two points, of which the rows are shared."""
    outline = one.outline()
    bonds = doubled(outline, one.place(), rows, sites_apart(one, rows))
    bonds.settle()
    build = Build(outline.plan().schema, bonds)
    kept = shared_loops(rows)
    second = {loop: build.number_of(loop if loop in kept else loop + SECOND) for loop in one.loops()}
    return scripted_case(outline, build, second)


def sites_apart(one, rows):
    """Return the list of the sites ahead of a Calling whose answers the rows do not tell."""
    bonds = bonds_with(one, rows)
    found = one.outline().ground(one.place(), bonds, [], rows)
    told = [bonds.parts(number) for number in range(bonds.many())]
    return [parts[1:] for parts in told if parts[0] == "told" and bonds.head_of(parts) not in found]
