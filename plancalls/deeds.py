"""Deeds: what they are, and what they make of a plan."""

from plancalls.errors import NoEntry, Unfit
from plancalls.kinds import is_integer, is_kind, is_name
from plancalls.plans import USE, Plan
from plancalls.schemas import are_names

# How many parts the deeds of each word have.
PARTS = {"keep": 2, "kind": 3, "mark": 2, "move": 3, "put": 3, "show": 2, "take": 2, "unkeep": 1}


def is_deed(thing):
    """Return whether thing, any value, is told as a deed."""
    if not isinstance(thing, tuple) or not thing or not is_name(thing[0]):
        return False
    word, parts = thing[0], thing[1:]
    if word not in PARTS or len(thing) != PARTS[word]:
        return False
    if word == "kind":
        return is_name(parts[0]) and is_kind(parts[1])
    if word in ("show", "mark"):
        return isinstance(parts[0], tuple) and (word == "show" or are_names(parts[0]))
    if word == "keep":
        return is_integer(parts[0]) and parts[0] >= 1
    if word == "put":
        return is_index(parts[0]) and isinstance(parts[1], tuple)
    return all([is_index(part) for part in parts])


def is_index(thing):
    """Return whether thing, any value, is an integer from 0 on."""
    return is_integer(thing) and thing >= 0


def done(plan, deed):
    """Return the Plan that comes of a plan by a deed."""
    word, parts = deed[0], deed[1:]
    if word == "kind":
        return plan.with_schema(plan.schema.with_kinds({parts[0]: parts[1]}))
    if word == "show":
        return plan.with_shown(parts[0])
    if word == "mark":
        return plan.with_marks(parts[0])
    if word == "keep":
        return with_kept(plan, parts[0])
    if word == "unkeep":
        return without_kept(plan)
    return with_other_items(plan, word, parts)


def with_other_items(plan, word, parts):
    """Return the Plan with an item put in, taken out, or moved."""
    items = plan.main_items()
    at = parts[0]
    if at >= len(items) + (1 if word == "put" else 0):
        raise NoEntry(at)
    if word == "move" and parts[1] >= len(items):
        raise NoEntry(parts[1])
    if word == "put":
        return plan.with_items([*items[:at], parts[1], *items[at:]])
    left = [*items[:at], *items[at + 1:]]
    if word == "move":
        left.insert(parts[1], items[at])
    return plan.with_items(left)


def with_kept(plan, many):
    """Return the Plan in which the first main items are kept items."""
    items = plan.main_items()
    if many > len(items):
        raise NoEntry(many)
    if plan.kept():
        raise Unfit()
    return Plan(plan.schema, [USE, *items[many:]], plan.shown(), marks=plan.marks(), kept=items[:many])


def without_kept(plan):
    """Return the Plan in which the kept items are main items again."""
    items = plan.main_items()
    if not plan.kept():
        raise Unfit()
    at = items.index(USE)
    return Plan(plan.schema, [*items[:at], *plan.kept(), *items[at + 1:]], plan.shown(), marks=plan.marks())
