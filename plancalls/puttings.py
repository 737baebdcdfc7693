"""Puttings: the rows of one plan that are given to the loops at a call in another one."""

from plancalls.bonds import are_entailed
from plancalls.doubles import SECOND
from plancalls.errors import Twice
from plancalls.forms import changed_tie


def is_never_more(one, other):
    """Return whether the Calling of one plan is never made more often than that of the other one."""
    if not one.is_made():
        return True
    if not other.is_made():
        return False
    rows = plain_rows(one, other)
    if rows is not None and is_right(one, other, rows):
        return True
    table = table_twice(one, other)
    if table is not None:
        raise Twice(table)
    return False


def plain_rows(one, other):
    """Return the dict from the loops of the other Calling to the rows of the plain putting, None if there is none."""
    found = {}
    for loop, table in other.loops().items():
        rows = one.rows_of_loops(table)
        if not rows:
            rows = one.rows(table)
        if len(rows) != 1:
            return None
        found[loop] = rows[0]
    return found


def table_twice(one, other):
    """Return the least table that stands twice, None if there is none."""
    tables = list(other.loops().values())
    for table in sorted(set(tables)):
        if tables.count(table) > 1 or len(one.rows(table)) > 1:
            return table
    return None


def is_right(one, other, rows):
    """Return whether a putting is right, told as the dict from the loops of the other Calling to rows of the one."""
    if not are_entailed(one.bonds(), claims_put(one, other, rows)):
        return False
    return settles_all(one, list(rows.values()))


def settles_all(one, rows):
    """Return whether rows settle each loop that is open at a Calling."""
    bonds = bonds_with(one, rows)
    found = one.outline().ground(one.place(), bonds, [], rows)
    return all([is_among(bonds, found, rows, one.row_of(loop)) for loop in one.loops()])


def bonds_with(one, rows):
    """Return Bonds with the conditions at a Calling and the ties of rows."""
    bonds = one.bonds()
    for row in rows:
        if row[0] == "row":
            bonds.number(row[2])
    bonds.settle()
    return bonds


def is_among(bonds, found, rows, row):
    """Return whether a row is one of some rows, or the class of its key is found to be ground."""
    if row[0] == "loop":
        return row in rows
    return bonds.head_of(row[2]) in found


def claims_put(one, other, rows):
    """Return the list of the conditions of the other Calling for these rows."""
    found = []
    for word, first, second in other.outline().conditions(other.place()):
        found.append((word, tie_put(one, other, rows, first), tie_put(one, other, rows, second)))
    return found


def tie_put(one, other, rows, tie):
    """Return a tie of the other Calling for these rows."""
    return changed_tie(tie, lambda inner: leaf_put(one, other, rows, inner))


def leaf_put(one, other, rows, tie):
    """Return a tie of the other Calling that has no inner ties for these rows."""
    if tie[0] == "cell":
        row = rows[tie[1]]
        return ("cell", row[1], tie[2]) if row[0] == "loop" else row[2]
    if tie[0] == "told" and one.has_ahead(tie[1], tie[2]) and not is_own(one, other, rows, tie):
        # The answer at other rows is another one; no tie of the plan has this form.
        return ("told", tie[1] + SECOND, tie[2])
    return tie


def is_own(one, other, rows, tie):
    """Return whether each marked loop that is open at the site of an answer is put to its own row."""
    return all([is_own_row(one, rows, loop) for loop in other.marked_at(tie[1], tie[2])])


def is_own_row(one, rows, loop):
    """Return whether a loop that is open at a Calling is put to its own row."""
    own = one.row_of(loop)
    if own[0] == "loop":
        return rows[loop] == own
    bonds = bonds_with(one, [rows[loop]])
    return bonds.head_of(rows[loop][2]) == bonds.head_of(own[2])
