"""Schemas: tables, functions, keys, references and made columns."""

from plancalls.errors import BadKey, BadMade, BadReference, NotFixed, Ringed, Unknown, Wrong
from plancalls.kinds import as_free, is_integer, is_kind, is_name

MOST_TABLES = 6
MOST_COLUMNS = 5
MOST_FUNCTIONS = 6
MOST_ARGUMENTS = 3


class Schema:
    """Tables with their columns and keys, functions, references and made columns; it never changes."""

    def __init__(self, tables, functions, *, keys=None, references=(), made=()):
        refuse_wrong(tables, functions, keys, references, made)
        told_keys = {} if keys is None else keys
        check_keys(tables, told_keys)
        check_references(tables, told_keys, references)
        check_made(tables, functions, told_keys, references, made)
        origins = {(item[0], item[1]): (item[2], tuple(item[3])) for item in made}
        check_rings(origins)
        self._tables = {name: tuple(tables[name]) for name in tables}
        self._numbers = {name: functions[name][0] for name in functions}
        self._kinds = {name: functions[name][1] for name in functions}
        self._keys = dict(told_keys)
        self._references = sorted({tuple(item) for item in references})
        self._made = origins

    def tables(self):
        """Return the ascending list of the names of the tables."""
        return sorted(self._tables)

    def functions(self):
        """Return the ascending list of the names of the functions."""
        return sorted(self._kinds)

    def references(self):
        """Return the ascending list of the references, each once."""
        return list(self._references)

    def made(self):
        """Return the ascending list of the made columns, each once."""
        return [place + self._made[place] for place in sorted(self._made)]

    def key_columns(self):
        """Return the dict from the tables that have a key to their key columns."""
        return {table: self._keys[table] for table in sorted(self._keys)}

    def columns(self, table):
        """Return the list of the columns of a table, in their order."""
        self._check_table(table)
        return list(self._tables[table])

    def key(self, table):
        """Return the key column of a table, None if it has none."""
        self._check_table(table)
        return self._keys.get(table)

    def arguments(self, function):
        """Return the number of arguments of a function."""
        self._check_function(function)
        return self._numbers[function]

    def kind(self, function):
        """Return the kind of a function."""
        self._check_function(function)
        return self._kinds[function]

    def made_of(self, table, column):
        """Return the tuple (function, columns) of a made column, None for any other."""
        return self._made.get((table, column))

    def targets(self, table, column):
        """Return the ascending list of the tables to which references lead from a column."""
        return [item[2] for item in self._references if item[0] == table and item[1] == column]

    def with_kinds(self, changes):
        """Return the Schema in which the functions of changes have these kinds."""
        for name in sorted(changes):
            self._check_function(name)
        kinds = dict(self._kinds)
        kinds.update(changes)
        for name in sorted([origin[0] for origin in self._made.values()]):
            if kinds[name] != "fixed":
                raise NotFixed(name)
        functions = {name: (self._numbers[name], kinds[name]) for name in kinds}
        return Schema(self._tables, functions, keys=self._keys, references=self._references, made=self.made())

    def as_bound(self, other):
        """Return whether another Schema is equal but for kinds, and no function is freer here than there."""
        if not self._is_equal_but_kinds(other):
            return False
        return all([as_free(other.kind(name), self.kind(name)) for name in self._kinds])

    def __eq__(self, other):
        if not isinstance(other, Schema):
            return False
        return self._is_equal_but_kinds(other) and self._kinds == other._kinds

    def _is_equal_but_kinds(self, other):
        if self._tables != other._tables or self._numbers != other._numbers:
            return False
        return self._keys == other._keys and self._references == other._references and self._made == other._made

    def _check_table(self, name):
        if name not in self._tables:
            raise Unknown(name)

    def _check_function(self, name):
        if name not in self._kinds:
            raise Unknown(name)


def refuse_wrong(tables, functions, keys, references, made):
    """Raise Wrong for the first argument of a Schema that is not as described."""
    fit = [are_tables(tables), are_functions(functions), are_keys(keys)]
    fit.append(isinstance(references, (list, tuple)) and all([is_reference(item) for item in references]))
    fit.append(isinstance(made, (list, tuple)) and all([is_made(item) for item in made]))
    if False in fit:
        raise Wrong(fit.index(False))


def are_names(things):
    """Return whether each of the things is a name."""
    return all([is_name(thing) for thing in things])


def are_tables(thing):
    """Return whether thing is a dict from names of tables to their columns."""
    if not isinstance(thing, dict) or len(thing) > MOST_TABLES:
        return False
    return are_names(thing) and all([are_columns(columns) for columns in thing.values()])


def are_columns(thing):
    """Return whether thing is a list or a tuple of different names, not too many."""
    if not isinstance(thing, (list, tuple)) or not 1 <= len(thing) <= MOST_COLUMNS:
        return False
    return are_names(thing) and len(set(thing)) == len(thing)


def are_functions(thing):
    """Return whether thing is a dict from names of functions to their arguments and kinds."""
    if not isinstance(thing, dict) or len(thing) > MOST_FUNCTIONS:
        return False
    return are_names(thing) and all([is_function(told) for told in thing.values()])


def is_function(thing):
    """Return whether thing is a tuple (arguments, kind)."""
    if not isinstance(thing, tuple) or len(thing) != 2:
        return False
    return is_integer(thing[0]) and 0 <= thing[0] <= MOST_ARGUMENTS and is_kind(thing[1])


def are_keys(thing):
    """Return whether thing is a dict from names to names, or None."""
    if thing is None:
        return True
    return isinstance(thing, dict) and are_names(thing) and are_names(list(thing.values()))


def is_reference(thing):
    """Return whether thing is a tuple (table, column, target) of names."""
    return isinstance(thing, tuple) and len(thing) == 3 and are_names(thing)


def is_made(thing):
    """Return whether thing is a tuple (table, column, function, columns) of names."""
    if not isinstance(thing, tuple) or len(thing) != 4 or not are_names(thing[:3]):
        return False
    columns = thing[3]
    return isinstance(columns, tuple) and len(columns) <= MOST_ARGUMENTS and are_names(columns)


def check_keys(tables, keys):
    """Raise BadKey for the least table in keys that is none, or lacks the column."""
    for table in sorted(keys):
        if table not in tables or keys[table] not in tables[table]:
            raise BadKey(table)


def check_references(tables, keys, references):
    """Raise BadReference for the first reference that does not lead to a table with a key."""
    for at, (table, column, target) in enumerate(references):
        if table not in tables or column not in tables[table] or target not in keys:
            raise BadReference(at)


def check_made(tables, functions, keys, references, made):
    """Raise BadMade for the first made column that is none, or was told otherwise earlier."""
    leading = {(item[0], item[1]): True for item in references}
    earlier = {}
    for at, item in enumerate(made):
        place = (item[0], item[1])
        if place in leading or keys.get(item[0]) == item[1]:
            raise BadMade(at)
        if not can_be_made(tables, functions, item) or earlier.get(place, item) != item:
            raise BadMade(at)
        earlier[place] = item


def can_be_made(tables, functions, item):
    """Return whether a fixed function makes a column of a table of as many columns as it takes."""
    table, column, function, columns = item
    if table not in tables or functions.get(function) != (len(columns), "fixed"):
        return False
    return all([name in tables[table] for name in (column, *columns)])


def check_rings(origins):
    """Raise Ringed for the least made column that hangs on itself."""
    for table, column in sorted(origins):
        if column in columns_behind(origins, table, column):
            raise Ringed(table, column)


def columns_behind(origins, table, column):
    """Return the columns on which a column hangs, directly or by way of others."""
    found = []
    waiting = [column]
    while waiting:
        place = (table, waiting.pop())
        if place in origins:
            new = [name for name in origins[place][1] if name not in found]
            found.extend(new)
            waiting.extend(new)
    return found
