"""Freest: the freest kinds of functions with which two plans are plain and alike."""

from plancalls.alike import are_alike, refuse_unlike
from plancalls.kinds import freer, is_integer, is_name
from plancalls.parting import is_case, parting_case
from plancalls.sites import hidden, loose

# The kinds that an assignment gives, ascending.
GIVEN = ("changing", "effect", "stable")


def assigned(plan, assignment):
    """Return the Plan of the schema in which functions have the kinds of an assignment."""
    return plan.with_schema(plan.schema.with_kinds(dict(assignment)))


def assignments(one, other):
    """Yield all assignments of two plans, in ascending order."""
    refuse_unlike(one, other)
    for assignment in all_assignments(one, other):
        yield assignment


def works(one, other, assignment):
    """Return whether two plans are plain and alike with an assignment."""
    refuse_unlike(one, other)
    first = assigned(one, assignment)
    second = assigned(other, assignment)
    return plain_stop(first, second) is None and are_alike(first, second)


def freest(one, other):
    """Return the ascending list of the assignments that work and are as bound as no other one that does."""
    refuse_unlike(one, other)
    return most_free(working(one, other))


def stop(one, other, assignment):
    """Return what stops an assignment, None if it works."""
    refuse_unlike(one, other)
    first = assigned(one, assignment)
    second = assigned(other, assignment)
    found = plain_stop(first, second)
    if found is not None:
        return found
    case = parting_case(first, second)
    return None if case is None else ("parted", case)


def freest_paper(one, other):
    """Return the freest assignments, and the most bound ones that do not work, each with what stops it."""
    refuse_unlike(one, other)
    good = working(one, other)
    bad = [assignment for assignment in all_assignments(one, other) if assignment not in good]
    least = [some for some in bad if not any([other_one != some and is_as_bound(other_one, some) for other_one in bad])]
    return (most_free(good), [(assignment, stop(one, other, assignment)) for assignment in least])


def is_freest_paper(one, other, goods, bads):
    """Return whether goods and bads are lists that show which assignments work."""
    refuse_unlike(one, other)
    told = all_assignments(one, other)
    if not isinstance(goods, list) or not isinstance(bads, list):
        return False
    if not all([is_one_of(told, thing) and works(one, other, thing) for thing in goods]):
        return False
    if not all([is_bad(one, other, told, thing) for thing in bads]):
        return False
    return all([is_judged(some, goods, [bad[0] for bad in bads]) for some in told])


def all_assignments(one, other):
    """Return the ascending list of all assignments of two plans."""
    called = [plan.function(answer) for plan in (one, other) for answer in plan.answers()]
    fixed = [item[2] for item in one.schema.made()]
    found = [()]
    for name in sorted(set(called)):
        if name not in fixed:
            found = [(*some, (name, kind)) for some in found for kind in GIVEN]
    return found


def working(one, other):
    """Return the ascending list of the assignments that work."""
    return [assignment for assignment in all_assignments(one, other) if works(one, other, assignment)]


def most_free(found):
    """Return those of some assignments that are as bound as no other one of them."""
    return [some for some in found if not any([some != other and is_as_bound(some, other) for other in found])]


def is_as_bound(one, other):
    """Return whether an assignment gives to no function a freer kind than another one."""
    return not any([freer(first[1], second[1]) for first, second in zip(one, other)])


def plain_stop(one, other):
    """Return what stops two plans from being plain, None if both are."""
    for which, plan in enumerate((one, other)):
        at = loose(plan)
        if at is not None:
            return ("loose", which, at)
        found = hidden(plan)
        if found is not None:
            return ("hidden", which, found[0], found[1])
    return None


def is_one_of(told, thing):
    """Return whether thing, any value, is one of the assignments told."""
    return isinstance(thing, tuple) and all([is_gift(part) for part in thing]) and thing in told


def is_gift(thing):
    """Return whether thing is a tuple of two names."""
    return isinstance(thing, tuple) and len(thing) == 2 and is_name(thing[0]) and is_name(thing[1])


def is_bad(one, other, told, thing):
    """Return whether thing, any value, is a tuple of an assignment and of what stops it."""
    if not isinstance(thing, tuple) or len(thing) != 2 or not is_one_of(told, thing[0]):
        return False
    return is_stop(assigned(one, thing[0]), assigned(other, thing[0]), thing[1])


def is_stop(one, other, thing):
    """Return whether thing, any value, tells what stops two plans, any case being right."""
    if not isinstance(thing, tuple) or len(thing) < 2 or not isinstance(thing[0], str):
        return False
    found = plain_stop(one, other)
    if found is None:
        return thing[0] == "parted" and len(thing) == 2 and is_case(one, other, thing[1])
    if not all([is_integer(part) or is_name(part) for part in thing]):
        return False
    return thing == found


def is_judged(assignment, goods, bads):
    """Return whether an assignment is as bound as one of goods, or one of bads as bound as it."""
    if any([is_as_bound(assignment, good) for good in goods]):
        return True
    return any([is_as_bound(bad, assignment) for bad in bads])
