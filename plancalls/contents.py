"""Contents: the rows of the tables of a schema."""

from plancalls.errors import BadRow, Unknown, Wrong
from plancalls.kinds import is_integer, is_name
from plancalls.schemas import Schema


class Contents:
    """The rows of the tables of a Schema, which they need not keep; they never change."""

    def __init__(self, schema, rows):
        if not isinstance(schema, Schema):
            raise Wrong(0)
        if not are_rows_of_tables(rows):
            raise Wrong(1)
        check_tables(schema, rows)
        check_rows(schema, rows)
        self._schema = schema
        self._rows = {}
        for table in schema.tables():
            self._rows[table] = tuple([tuple(row) for row in rows.get(table, ())])

    @property
    def schema(self):
        """The Schema."""
        return self._schema

    def rows(self, table):
        """Return the list of the rows of a table, in order."""
        self._check_table(table)
        return list(self._rows[table])

    def size(self, table):
        """Return the number of the rows of a table."""
        self._check_table(table)
        return len(self._rows[table])

    def with_rows(self, table, rows):
        """Return the Contents in which a table has these rows."""
        if not is_name(table):
            raise Wrong(0)
        if not isinstance(rows, (list, tuple)):
            raise Wrong(1)
        changed = dict(self._rows)
        changed[table] = rows
        return Contents(self._schema, changed)

    def __eq__(self, other):
        if not isinstance(other, Contents):
            return False
        return self._schema == other._schema and self._rows == other._rows

    def _check_table(self, name):
        if name not in self._rows:
            raise Unknown(name)


def are_rows_of_tables(thing):
    """Return whether thing is a dict from names to lists or tuples."""
    if not isinstance(thing, dict):
        return False
    return all([is_name(table) and isinstance(thing[table], (list, tuple)) for table in thing])


def check_tables(schema, rows):
    """Raise Unknown for the least key of rows that is no table."""
    for table in sorted(rows):
        if table not in schema.tables():
            raise Unknown(table)


def check_rows(schema, rows):
    """Raise BadRow for the least table with an item that is no row, and for its first one."""
    for table in sorted(rows):
        width = len(schema.columns(table))
        for at, item in enumerate(rows[table]):
            if not is_row(item, width):
                raise BadRow(table, at)


def is_row(thing, width):
    """Return whether thing is a tuple of as many integers as a table is wide."""
    if not isinstance(thing, tuple) or len(thing) != width:
        return False
    return all([is_integer(part) for part in thing])
