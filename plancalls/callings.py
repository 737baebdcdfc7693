"""Callings: what a plan has at the call of an item."""

from plancalls.bonds import leads_of
from plancalls.outlines import order_key


class Calling:
    """The item with an answer in a plain plan, told as an Outline: the rows that the plan has at its call."""

    def __init__(self, outline, answer):
        plan = outline.plan()
        self._outline = outline
        self._place = plan.place_of(answer) if answer in plan.answers() else None
        self._sites = {site[:2]: site[2] for site in outline.sites()}
        self._rows = None

    def is_made(self):
        """Return whether the plan has the answer, and its conditions there do not clash."""
        return self._place is not None and not self._outline.clashes(self._place)

    def outline(self):
        """Return the Outline of the plan."""
        return self._outline

    def place(self):
        """Return the place of the call."""
        return self._place

    def bonds(self):
        """Return Bonds, for the caller to keep, with the conditions at the call."""
        return self._outline.bonds(self._place)

    def loops(self):
        """Return the dict from the loops that are open at the call to their tables, in order."""
        return self.bonds().tables()

    def row_of(self, loop):
        """Return the row of a loop, told as an order key."""
        return order_key(self._outline.plan(), loop)

    def marked_at(self, stream, index):
        """Return the list of the marked loops that are open at a site."""
        plan = self._outline.plan()
        loops = plan.open_at(self._sites[(stream, index)])
        return [loop for loop in plan.marks() if loop in loops]

    def has_ahead(self, stream, index):
        """Return whether a site is ahead of the call."""
        return (stream, index) in [site[:2] for site in self._outline.sites_ahead(self._place)]

    def rows_of_loops(self, table):
        """Return the list of the different rows that the open loops over a table have."""
        bonds = self.bonds()
        rows = [self.row_of(loop) for loop, other in self.loops().items() if other == table]
        found = {}
        for row in rows:
            found.setdefault(row[1] if row[0] == "loop" else bonds.head_of(row[2]), row)
        return list(found.values())

    def rows(self, table):
        """Return the list of the different rows of a table; of more than two perhaps not all."""
        if self._rows is None:
            self._rows = self._all_rows()
        return list(self._rows.get(table, []))

    def _all_rows(self):
        """Return the dict from tables to the lists of the different rows that the plan has of them."""
        schema = self._outline.plan().schema
        bonds = self.bonds()
        put_in_leads(schema, bonds)
        ties = bonds.ties()
        found = {}
        for loop, table in bonds.tables().items():
            if schema.key(table) is None:
                found.setdefault(table, []).append(self.row_of(loop))
        for table, head in bonds.rows_had():
            found.setdefault(table, []).append(("row", table, ties[head]))
        return found


def put_in_leads(schema, bonds):
    """Put in the ties by which the rows that are had lead to others, as far as tables have fewer than two rows."""
    leads = leads_of(schema)
    far = distances(leads)
    begun = {}
    row = nearest_row(schema, bonds, far, begun)
    while row is not None:
        begun[row] = True
        for column in [place[1] for place in leads if place[0] == row[0]]:
            put_in_column(schema, bonds, row, column)
        bonds.settle()
        row = nearest_row(schema, bonds, far, begun)


def nearest_row(schema, bonds, far, begun):
    """Return the row, not begun, from which the fewest references lead to a table with fewer than two rows, or None.

    The nearest one, as others can lead on without an end.
    """
    rows = rows_in(schema, bonds)
    scarce = [table for table in schema.tables() if len([row for row in rows if row[0] == table]) < 2]
    left = []
    for row in rows:
        ways = [far[(row[0], table)] for table in scarce if (row[0], table) in far]
        if ways and row not in begun:
            left.append((min(ways), row))
    return min(left)[1] if left else None


def rows_in(schema, bonds):
    """Return the list of the rows that Bonds have, tuples of a table and a loop, or the class of a key."""
    found = [(table, loop) for loop, table in bonds.tables().items() if schema.key(table) is None]
    return found + bonds.rows_had()


def put_in_column(schema, bonds, row, column):
    """Put in the tie of a column of a row, if it is not the key."""
    table, owner = row
    key = schema.key(table)
    if key is None:
        bonds.number(("cell", owner, column))
    elif key != column:
        bonds.number(("look", table, column, bonds.ties()[owner]))


def distances(leads):
    """Return the dict from tuples of two tables to how many references lead from the one to the other at least."""
    far = {}
    for table, column in leads:
        for target in leads[(table, column)]:
            far[(table, target)] = 1
    many = -1
    while many != len(far):
        many = len(far)
        steps = [(one, other, last) for one, other in far for middle, last in far if other == middle]
        for one, other, last in steps:
            if (one, last) not in far:
                far[(one, last)] = far[(one, other)] + far[(other, last)]
    return far
