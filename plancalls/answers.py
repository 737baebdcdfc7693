"""Answers: functions that are told by a table, and whether contents keep their schema with functions."""

from plancalls.errors import Missing, Wrong
from plancalls.kinds import is_integer

MOST_ARGUMENTS = 3


class Answers:
    """A function that returns what it was told, otherwise rest plus step times many; it never changes."""

    def __init__(self, told=None, *, rest=0, step=0):
        fit = [is_told(told), is_integer(rest), is_integer(step)]
        if False in fit:
            raise Wrong(fit.index(False))
        table = {} if told is None else told
        self._told = {key: table[key] for key in sorted(table)}
        self._rest = rest
        self._step = step

    def __call__(self, arguments, many):
        key = (tuple(arguments), many)
        if key in self._told:
            return self._told[key]
        return self._untold(many)

    @property
    def rest(self):
        """What is returned for many 0 where nothing was told."""
        return self._rest

    @property
    def step(self):
        """How much more is returned for each of many where nothing was told."""
        return self._step

    def told(self):
        """Return the dict of what was told, from tuples (arguments, many) to answers."""
        return {key: self._told[key] for key in self._told}

    def with_answer(self, arguments, many, answer):
        """Return the Answers that tell this answer, too, or instead of the one that was told."""
        changed = self.told()
        changed[(tuple(arguments), many)] = answer
        return Answers(changed, rest=self._rest, step=self._step)

    @staticmethod
    def always(value):
        """Return the Answers that return a value whatever is asked."""
        return Answers(rest=value)

    def __eq__(self, other):
        if not isinstance(other, Answers):
            return False
        if self._rest != other._rest or self._step != other._step:
            return False
        return self._exceptions() == other._exceptions()

    def _untold(self, many):
        return self._rest + self._step * many

    def _exceptions(self):
        """Return what was told otherwise than it would be answered anyway: all that makes a difference."""
        return {key: self._told[key] for key in self._told if self._told[key] != self._untold(key[1])}


def is_told(thing):
    """Return whether thing is a dict from tuples (arguments, many) to integers, or None."""
    if thing is None:
        return True
    if not isinstance(thing, dict):
        return False
    return all([is_question(key) and is_integer(thing[key]) for key in thing])


def is_question(thing):
    """Return whether thing is a tuple (arguments, many)."""
    if not isinstance(thing, tuple) or len(thing) != 2:
        return False
    arguments, many = thing
    if not isinstance(arguments, tuple) or len(arguments) > MOST_ARGUMENTS:
        return False
    return all([is_integer(part) for part in arguments]) and is_integer(many) and many >= 0


def keeps(schema, contents, functions):
    """Return None if the contents keep the schema with these functions, otherwise the first fault."""
    for name in sorted({item[2] for item in schema.made()}):
        if name not in functions:
            raise Missing(name)
    fault = key_fault(schema, contents)
    if fault is None:
        fault = reference_fault(schema, contents)
    if fault is None:
        fault = made_fault(schema, contents, functions)
    return fault


def key_fault(schema, contents):
    """Return the tuple of the first row whose key stands in an earlier row, None if there is none."""
    for table in sorted(schema.key_columns()):
        keys = values_in(contents, table, schema.key(table))
        for number, key in enumerate(keys):
            if key in keys[:number]:
                return ("key", table, number)
    return None


def reference_fault(schema, contents):
    """Return the tuple of the first row whose reference leads nowhere, None if there is none."""
    for table, column, target in schema.references():
        keys = values_in(contents, target, schema.key(target))
        for number, key in enumerate(values_in(contents, table, column)):
            if key not in keys:
                return ("reference", table, column, target, number)
    return None


def made_fault(schema, contents, functions):
    """Return the tuple of the first row whose made value is not the answer, None if there is none."""
    for table, column, name, columns in schema.made():
        function = functions[name]
        sources = [values_in(contents, table, source) for source in columns]
        for number, value in enumerate(values_in(contents, table, column)):
            arguments = tuple([values[number] for values in sources])
            if function(arguments, 0) != value:
                return ("made", table, column, number)
    return None


def values_in(contents, table, column):
    """Return the list of the values in a column of a table, in the order of the rows."""
    at = contents.schema.columns(table).index(column)
    return [row[at] for row in contents.rows(table)]
