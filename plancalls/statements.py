"""Statements: how long the answers of functions may be kept."""

from plancalls.kinds import is_integer, is_name
from plancalls.labels import refuting

MOST_ASKS = 40

# How long an answer is kept, the shortest time first.
KEEPINGS = ("never", "statement", "ever")


def is_history(schema, thing):
    """Return whether thing, any value, is a history that is right for a schema."""
    if not isinstance(thing, list) or not 1 <= len(thing) <= MOST_ASKS:
        return False
    if not all([is_ask(schema, part) for part in thing]):
        return False
    numbers = [ask[0] for ask in thing]
    if numbers != sorted(numbers):
        return False
    return all([refuting(thing, name, schema.kind(name)) is None for name in schema.functions()])


def told(schema, keepings, history):
    """Return the list of the values that a store with these keepings answers to the asks of a history."""
    return [answer for answer, _ in answers_of_store(keepings, history)]


def asked(schema, keepings, history):
    """Return the ascending list of the indexes of the asks at which the function itself must be called."""
    return [at for at, (_, is_new) in enumerate(answers_of_store(keepings, history)) if is_new]


def lasting(kind):
    """Return the longest keeping that is right for a kind."""
    if kind == "fixed":
        return "ever"
    return "statement" if kind == "stable" else "never"


def wrong(schema, keepings):
    """Return the least function that is kept too long and the least history that shows it, None if there is none."""
    for name in schema.functions():
        kind = schema.kind(name)
        if KEEPINGS.index(keepings.get(name, "never")) > KEEPINGS.index(lasting(kind)):
            arguments = (0,) * schema.arguments(name)
            # The answer of a stable function changes from one statement to the next alone.
            second = 1 if kind == "stable" else 0
            return (name, [(0, name, arguments, 0), (second, name, arguments, 1)])
    return None


def is_wrong(schema, keepings, thing):
    """Return whether thing, any value, is a right history to which a store answers with another value."""
    if not is_history(schema, thing):
        return False
    return told(schema, keepings, thing) != [ask[3] for ask in thing]


def is_ask(schema, thing):
    """Return whether thing, any value, is an ask of a function of a schema."""
    if not isinstance(thing, tuple) or len(thing) != 4:
        return False
    statement, name, arguments, value = thing
    if not is_integer(statement) or statement < 0 or not is_integer(value):
        return False
    if not is_name(name) or name not in schema.functions() or not isinstance(arguments, tuple):
        return False
    return len(arguments) == schema.arguments(name) and all([is_integer(part) for part in arguments])


def answers_of_store(keepings, history):
    """Return the list of the tuples (answer, whether the function is called) of a store for the asks of a history."""
    kept = {}
    found = []
    for statement, name, arguments, value in history:
        keeping = keepings.get(name, "never")
        question = (name, arguments, statement if keeping == "statement" else 0)
        if keeping != "never" and question in kept:
            found.append((kept[question], False))
        else:
            kept[question] = value
            found.append((value, True))
    return found
