"""Fewer: which of two plans that are alike runs an item never more often."""

from plancalls.alike import first_difference, matched
from plancalls.answers import keeps
from plancalls.callings import Calling
from plancalls.errors import Parted, Unknown
from plancalls.excess import case_of_more
from plancalls.puttings import is_never_more, plain_rows
from plancalls.records import record
from plancalls.runs import stream_of
from plancalls.tellings import is_told_putting


def never_more(one, other, answer):
    """Return whether one plan never runs the item with an answer more often than the other one."""
    first, second = callings(one, other, answer)
    return is_never_more(first, second)


def put(one, other, answer):
    """Return the list of the tuples (loop, row) of the plain putting, None if never_more does not hold."""
    first, second = callings(one, other, answer)
    if not is_never_more(first, second):
        return None
    return list(plain_rows(first, second).items()) if first.is_made() else []


def is_put(one, other, answer, thing):
    """Return whether thing is a right putting."""
    first, second = callings(one, other, answer)
    if not first.is_made():
        return isinstance(thing, list) and len(thing) == 0
    return second.is_made() and is_told_putting(first, second, thing)


def more_case(one, other, answer):
    """Return a case in which one plan runs the item more often, None if never_more holds."""
    first, second = callings(one, other, answer)
    return None if is_never_more(first, second) else case_of_more(first, second)


def is_more_case(one, other, answer, contents, functions):
    """Return whether contents keep the schema with functions, and one plan runs the item more often on them."""
    alike_sides(one, other)
    refuse_unknown(one, other, answer)
    if contents.schema != one.schema or keeps(one.schema, contents, functions) is not None:
        return False
    first, second = [times_run(plan, answer, contents, functions) for plan in (one, other)]
    return first > second


def against(one, other):
    """Return how often one plan runs its items against the other one: even, fewer, more or either."""
    sides = alike_sides(one, other)
    never = ([], [])
    for answer in bound_answers(one, other):
        first, second = [Calling(sides.outline(which), answer) for which in (0, 1)]
        never[0].append(is_never_more(first, second))
        never[1].append(is_never_more(second, first))
    if False not in never[0]:
        return "fewer" if False in never[1] else "even"
    return "either" if False in never[1] else "more"


def callings(one, other, answer):
    """Return the two Callings of an answer in plans that are alike."""
    sides = alike_sides(one, other)
    refuse_unknown(one, other, answer)
    return (Calling(sides.outline(0), answer), Calling(sides.outline(1), answer))


def alike_sides(one, other):
    """Return the Sides of two plans that are alike; raise Parted, or what compare raises, for others."""
    sides = matched(one, other)
    found = first_difference(sides)
    if found is not None:
        raise Parted(found[0], found[1], found[2])
    return sides


def refuse_unknown(one, other, answer):
    """Raise Unknown for an answer that neither plan has."""
    if answer not in one.answers() and answer not in other.answers():
        raise Unknown(answer)


def bound_answers(one, other):
    """Return the ascending list of the answers of either plan of items that call fixed or stable functions."""
    found = [answer for plan in (one, other) for answer in plan.answers()
             if stream_of(plan.schema, plan.function(answer)) is None]
    return sorted(set(found))


def times_run(plan, answer, contents, functions):
    """Return how often a plan runs the item with an answer."""
    if answer not in plan.answers():
        return 0
    return record(plan, contents, functions).counted_at(answer)
