"""Tellings: whether any value tells a tie or a putting."""

from plancalls.bonds import is_entailed
from plancalls.kinds import is_integer, is_name
from plancalls.puttings import is_right
from plancalls.runs import stream_of
from plancalls.schemas import are_names


def is_told_putting(one, other, thing):
    """Return whether thing, any value, is the list of the tuples (loop, row) of a right putting."""
    loops = list(other.loops().items())
    if not isinstance(thing, list) or len(thing) != len(loops):
        return False
    for part, (loop, table) in zip(thing, loops):
        if not isinstance(part, tuple) or len(part) != 2 or not is_name(part[0]) or part[0] != loop:
            return False
        if not is_row_of(one, table, part[1]):
            return False
    return is_right(one, other, dict(thing))


def is_row_of(one, table, thing):
    """Return whether thing, any value, is a row that a Calling has of a table, told as an order key."""
    if not isinstance(thing, tuple) or len(thing) < 2 or not are_names(thing[:2]):
        return False
    if thing[0] == "loop":
        loops = one.loops()
        return len(thing) == 2 and thing[1] in loops and loops[thing[1]] == table and one.row_of(thing[1]) == thing
    if thing[0] != "row" or len(thing) != 3 or thing[1] != table or not is_tie(one, thing[2]):
        return False
    return is_entailed(one.bonds(), ("had", table, thing[2]))


def is_tie(one, thing):
    """Return whether thing, any value, is a tie with loops that are open at a Calling."""
    if not isinstance(thing, tuple) or len(thing) < 2 or not isinstance(thing[0], str):
        return False
    if thing[0] == "int":
        return len(thing) == 2 and is_integer(thing[1])
    if thing[0] == "cell":
        return len(thing) == 3 and is_cell(one, thing)
    if thing[0] == "look":
        return len(thing) == 4 and is_look(one, thing)
    if thing[0] == "ask":
        return len(thing) == 3 and is_ask(one, thing)
    return thing[0] == "told" and len(thing) == 3 and is_answer(one, thing)


def is_cell(one, thing):
    """Return whether something told as a cell is a column of an open loop without a key, or its key."""
    schema = one.outline().plan().schema
    if not are_names(thing) or thing[1] not in one.loops():
        return False
    table = one.loops()[thing[1]]
    return thing[2] in schema.columns(table) and schema.key(table) in (None, thing[2])


def is_look(one, thing):
    """Return whether something told as a look is a column, not the key, of a table with a key."""
    schema = one.outline().plan().schema
    if not are_names(thing[:3]) or thing[1] not in schema.key_columns():
        return False
    return thing[2] in schema.columns(thing[1]) and thing[2] != schema.key(thing[1]) and is_tie(one, thing[3])


def is_ask(one, thing):
    """Return whether something told as an ask is the answer of a fixed or a stable function."""
    schema = one.outline().plan().schema
    if not is_name(thing[1]) or thing[1] not in schema.functions() or not isinstance(thing[2], tuple):
        return False
    if stream_of(schema, thing[1]) is not None or len(thing[2]) != schema.arguments(thing[1]):
        return False
    return all([is_tie(one, part) for part in thing[2]])


def is_answer(one, thing):
    """Return whether something told as an answer has a stream of calls, and an index."""
    schema = one.outline().plan().schema
    streams = [stream_of(schema, name) for name in schema.functions()]
    return isinstance(thing[1], str) and thing[1] in streams and is_integer(thing[2])
