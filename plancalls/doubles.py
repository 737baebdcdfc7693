"""Doubles: the conditions at a place of a plan told twice, for two points of its run."""

from plancalls.forms import changed_tie

# What stands behind the names of loops and streams at the second point: no name has it.
SECOND = "2"


def doubled(outline, place, shared):
    """Return Bonds with the conditions at a place twice: at two points, of which some order keys are shared."""
    bonds = outline.bonds(place)
    loops = shared_loops(shared)
    for loop, table in bonds.tables().items():
        if loop not in loops:
            bonds.begin_loop(loop + SECOND, table)
    for word, one, other in outline.conditions(place):
        bonds.bind(word, second_tie(one, loops), second_tie(other, loops))
    for row in shared:
        if row[0] == "row":
            bonds.bind("same", row[2], second_tie(row[2], loops))
    bonds.settle()
    share_answers(outline, place, bonds, loops)
    return bonds


def share_answers(outline, place, bonds, loops):
    """Join the answers of sites at two points if their order keys are shared: it is one call that both have."""
    left = [site for site in outline.sites() if is_within(outline, site[2], place)]
    changed = True
    while changed:
        changed = False
        for site in list(left):
            if all([is_shared(bonds, row, second_row(row, loops)) for row in outline.order_keys(site[2])]):
                tie = ("told", *site[:2])
                bonds.bind("same", tie, second_tie(tie, loops))
                bonds.settle()
                left.remove(site)
                changed = True


def is_shared(bonds, one, other):
    """Return whether an order key is the same row at both points."""
    return one == other or (one[0] == "row" and bonds.head_of(one[2]) == bonds.head_of(other[2]))


def is_within(outline, place, end):
    """Return whether all loops that are open at a place are open at another one."""
    loops = outline.plan().open_at(end)
    return all([loop in loops for loop in outline.plan().open_at(place)])


def shared_loops(rows):
    """Return the list of the loops that order keys tell as themselves."""
    return [row[1] for row in rows if row[0] == "loop"]


def second_tie(tie, shared):
    """Return a tie as it is at the second point; shared loops are at the same row there."""
    return changed_tie(tie, lambda inner: second_leaf(inner, shared))


def second_leaf(tie, shared):
    """Return a tie that has no inner ties as it is at the second point."""
    if tie[0] == "cell" and tie[1] not in shared:
        return ("cell", tie[1] + SECOND, tie[2])
    if tie[0] == "told":
        return ("told", tie[1] + SECOND, tie[2])
    return tie


def second_row(row, shared):
    """Return an order key as it is at the second point."""
    if row[0] == "loop":
        return ("loop", row[1] if row[1] in shared else row[1] + SECOND)
    return ("row", row[1], second_tie(row[2], shared))
