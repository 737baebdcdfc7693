"""Builds: contents in which the classes of ties have values, and rows of their own."""

from plancalls.contents import Contents

# Where references lead that no tie speaks of, if there is no other row; no loop has an empty name.
SPARE = ""


class Build:
    """Contents that show Bonds that do not clash: each class has another value, and a table just the rows it needs.

    A row is told as a tuple (table, owner): the class of its key, its loop if the table has no key, or SPARE.
    """

    def __init__(self, schema, bonds, first=()):
        self._schema = schema
        self._bonds = bonds
        self._values = values_of(bonds)
        self._spare = unused_values(1, self._values)[0]
        self._answers = {name: {} for name in schema.functions()}
        self._told = {}
        self._rows = {}
        self._put_in_rows()
        self._put_in_values()
        self._put_in_leads()
        self._order = {table: self._ordered(table, first) for table in schema.tables()}

    def spare(self):
        """Return a value that no class has."""
        return self._spare

    def told(self):
        """Return the dict from tuples (stream, index) to the values of the answers of sites."""
        return {site: self._told[site] for site in self._told}

    def answers(self, name):
        """Return the dict of what a function that is asked by ties answers, as Answers take it."""
        return {question: self._answers[name][question] for question in self._answers[name]}

    def contents(self):
        """Return the Contents."""
        rows = {table: [self._row(row) for row in self._order[table]] for table in self._order}
        return Contents(self._schema, rows)

    def number_of(self, loop):
        """Return the number of the row at which an open loop is."""
        row = row_of(self._schema, self._bonds, loop)
        return self._order[row[0]].index(row)

    def _put_in_rows(self):
        """Note the rows of the loops and those that are had, each with its key."""
        for table, head in self._bonds.rows_had():
            self._rows[(table, head)] = {self._schema.key(table): self._values[head]}
        for loop, table in self._bonds.tables().items():
            if self._schema.key(table) is None:
                self._rows[(table, loop)] = {}

    def _put_in_values(self):
        """Note the values of the ties."""
        for number in range(self._bonds.many()):
            parts = self._bonds.parts(number)
            value = self._values[self._bonds.head(number)]
            if parts[0] == "cell":
                row = row_of(self._schema, self._bonds, parts[1])
                self._rows[row][parts[2]] = value
            elif parts[0] == "look" and (parts[1], self._bonds.head(parts[3])) in self._rows:
                self._rows[(parts[1], self._bonds.head(parts[3]))][parts[2]] = value
            elif parts[0] == "ask":
                arguments = tuple([self._values[self._bonds.head(part)] for part in parts[2]])
                self._answers[parts[1]][(arguments, 0)] = value
            elif parts[0] == "told":
                self._told[parts[1:]] = value

    def _put_in_leads(self):
        """Give a row to lead to to each column from which references lead and of which no tie speaks."""
        many = -1
        while many != len(self._rows):
            many = len(self._rows)
            for row in list(self._rows):
                for column in self._schema.columns(row[0]):
                    targets = self._schema.targets(row[0], column)
                    if len(targets) > 0 and column not in self._rows[row]:
                        self._rows[row][column] = self._key_in(targets)

    def _key_in(self, tables):
        """Return the key of a row that all of these tables have; if there is none, they get a spare one."""
        for _, owner in self._rows:
            if all([(table, owner) in self._rows for table in tables]):
                return self._values.get(owner, self._spare)
        for table in tables:
            self._put_in_spare(table)
        return self._spare

    def _put_in_spare(self, table):
        """Note the spare row of a table, and those to which its key leads."""
        if (table, SPARE) not in self._rows:
            self._rows[(table, SPARE)] = {self._schema.key(table): self._spare}
            for target in self._schema.targets(table, self._schema.key(table)):
                self._put_in_spare(target)

    def _ordered(self, table, first):
        """Return the list of the rows of a table, some of them ahead of all others."""
        rows = [row for row in self._rows if row[0] == table]
        return [row for row in rows if row in first] + [row for row in rows if row not in first]

    def _row(self, row):
        """Return a row as it stands in the Contents."""
        known = dict(self._rows[row])
        columns = self._schema.columns(row[0])
        for column in columns:
            self._fill(row[0], known, column)
        return tuple([known[column] for column in columns])

    def _fill(self, table, known, column):
        """Give a column a value, if no tie gave it one."""
        if column in known:
            return
        origin = self._schema.made_of(table, column)
        if origin is None:
            known[column] = self._spare
            return
        function, sources = origin
        for source in sources:
            self._fill(table, known, source)
        arguments = tuple([known[source] for source in sources])
        known[column] = self._answers[function].get((arguments, 0), self._spare)


def values_of(bonds):
    """Return the dict from classes to values: their integers, and other ones for those that have none."""
    found = {}
    for number in range(bonds.many()):
        if bonds.parts(number)[0] == "int":
            found[bonds.head(number)] = bonds.parts(number)[1]
    heads = [bonds.head(number) for number in range(bonds.many())]
    others = [head for head in sorted(set(heads)) if head not in found]
    free = dict(zip(others, unused_values(len(others), found)))
    return {**found, **free}


def unused_values(many, found):
    """Return a list of integers from 0 on that are no values of a dict."""
    used = list(found.values())
    free = [value for value in range(len(used) + many) if value not in used]
    return free[:many]


def row_of(schema, bonds, loop):
    """Return the row at which an open loop is."""
    table = bonds.tables()[loop]
    key = schema.key(table)
    if key is None:
        return (table, loop)
    return (table, bonds.head_of(("cell", loop, key)))
