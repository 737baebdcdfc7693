"""Contrasts: whether two plans give out other rows or make other calls on a case."""

from plancalls.answers import Answers, keeps
from plancalls.contents import Contents
from plancalls.records import record_of
from plancalls.runs import Run


def is_case_of(schema, thing):
    """Return whether thing is a tuple of Contents and the Answers of all functions, which keep a schema."""
    if not isinstance(thing, tuple) or len(thing) != 2:
        return False
    contents, functions = thing
    if not isinstance(contents, Contents) or contents.schema != schema or not isinstance(functions, dict):
        return False
    if len(functions) != len(schema.functions()) or not all([name in functions for name in schema.functions()]):
        return False
    if not all([isinstance(function, Answers) for function in functions.values()]):
        return False
    return keeps(schema, contents, functions) is None


def differ(one, other, case):
    """Return whether the records of two plans differ on a case."""
    contents, functions = case
    first = Run(one, contents, functions)
    second = Run(other, contents, functions)
    # The runs go on side by side: the first row that differs is enough.
    row = first.next_row()
    while row == second.next_row():
        if row is None:
            return record_of(one, [], first) != record_of(other, [], second)
        row = first.next_row()
    return True


def next_less(one, other, case):
    """Return the case without the first row without which it is still one, None if there is no such row."""
    contents, functions = case
    run = [plan.table_of(loop) for plan in (one, other) for loop in plan.loops()]
    for table in contents.schema.tables():
        for number in range(contents.size(table)):
            rows = contents.rows(table)
            del rows[number]
            less = (contents.with_rows(table, rows), functions)
            # Rows of a table that no loop goes through make no difference to the runs.
            if keeps(contents.schema, less[0], functions) is None and (table not in run or differ(one, other, less)):
                return less
    return None
