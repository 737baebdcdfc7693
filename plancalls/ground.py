"""Ground: what is told by the rows of some loops, and by which loops a run is ordered."""

from plancalls.outlines import Outline


def is_ground(plan, place, tie, loops):
    """Return whether the class of a tie is ground over loops."""
    return written(plan, place, tie, loops) is not None


def is_ground_by(plan, place, tie, rows):
    """Return whether the class of a tie is ground over rows, told as order keys."""
    outline = Outline(plan)
    bonds = outline.bonds(place)
    for row in rows:
        if row[0] == "row":
            bonds.number(row[2])
    bonds.number(tie)
    bonds.settle()
    return bonds.head_of(tie) in outline.ground(place, bonds, [], rows)


def is_settled(plan, place, loop, loops):
    """Return whether an open loop is settled by loops, or one of them."""
    return loop in Outline(plan).settled_by(place, loops)


def written(plan, place, tie, loops):
    """Return a tie of the class of a tie that has cells of these loops alone, None if it is not ground over them."""
    outline = Outline(plan)
    bonds = outline.bonds(place)
    bonds.number(tie)
    bonds.settle()
    return outline.ground(place, bonds, loops).get(bonds.head_of(tie))


def order_keys(plan, place):
    """Return the list of the order keys at a place."""
    return Outline(plan).order_keys(place)
