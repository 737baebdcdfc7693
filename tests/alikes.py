"""Plans by chance that are alike to a plan: by moves, by orders, and by little changes."""

from pairings import changed_plan
from plancalls.alike import compare
from plancalls.errors import PlanError
from plancalls.moves import alike_moves, moved
from plancalls.orders import how_many, order_at, reordered


def alike_plan(chance, plan):
    """Return a plan that is alike to a plain plan, perhaps the plan itself."""
    way = chance.random()
    if way < 0.4:
        return moved_plan(chance, plan)
    if way < 0.7:
        return reordered(plan, order_at(plan, chance.randrange(how_many(plan))))
    for _ in range(20):
        other = changed_plan(chance, plan)
        if other is not None and is_alike(plan, other):
            return other
    return plan


def moved_plan(chance, plan):
    """Return the plan to which one to three alike moves lead."""
    for _ in range(chance.randint(1, 3)):
        moves = alike_moves(plan)
        if moves:
            plan = moved(plan, chance.choice(moves))
    return plan


def is_alike(plan, other):
    """Return whether a plan is plain and alike to a plain one."""
    try:
        return compare(plan, other) is None
    except PlanError:
        return False
