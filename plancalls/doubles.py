"""Doubles: the conditions at a place of a plan told twice, for two points of its run."""

from plancalls.forms import changed_tie

# What stands behind the names of loops at the second point: no name has it.
SECOND = "2"


def doubled(outline, place, shared, apart=()):
    """Return Bonds with the conditions at a place twice: at two points, of which some rows are shared.

    The rows are told as order keys. The answers of sites are shared, too, but for those of the sites apart.
    """
    bonds = outline.bonds(place)
    kept = shared_loops(shared)
    for loop, table in bonds.tables().items():
        if loop not in kept:
            bonds.begin_loop(loop + SECOND, table)
    for word, one, other in outline.conditions(place):
        bonds.bind(word, second_tie(one, kept, apart), second_tie(other, kept, apart))
    for row in shared:
        if row[0] == "row":
            bonds.bind("same", row[2], second_tie(row[2], kept, apart))
    return bonds


def shared_loops(rows):
    """Return the list of the loops that order keys tell as themselves."""
    return [row[1] for row in rows if row[0] == "loop"]


def second_tie(tie, shared, apart=()):
    """Return a tie as it is at the second point; shared loops are at the same row there."""
    return changed_tie(tie, lambda inner: second_leaf(inner, shared, apart))


def second_leaf(tie, shared, apart):
    """Return a tie that has no inner ties as it is at the second point."""
    if tie[0] == "cell" and tie[1] not in shared:
        return ("cell", tie[1] + SECOND, tie[2])
    if tie[0] == "told" and tie[1:] in apart:
        return ("told", *second_site(tie[1:]))
    return tie


def second_site(site):
    """Return what a site, a tuple (stream, index), is called at the second point."""
    return (site[0] + SECOND, site[1])


def second_row(row, shared):
    """Return an order key that is not shared as it is at the second point."""
    if row[0] == "loop":
        return ("loop", row[1] + SECOND)
    return ("row", row[1], second_tie(row[2], shared))
