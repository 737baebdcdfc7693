"""Orders judged by the words of [80] alone, and the fewest exchanges between them."""

import itertools

from plancalls.alike import compare
from plancalls.errors import PlanError
from plancalls.orders import reordered
from plancalls.sites import is_plain, sites


def told_sites(plan):
    """Return the live sites of each stream by their answers, with the loops that are open at each of them."""
    steps, found = plan.steps(), {}
    for stream, _, place in sites(plan):
        answer = steps[place][1] if place < len(steps) else None
        found.setdefault(stream, []).append((answer, sorted(plan.open_at(place))))
    return found


def is_right(plan, order):
    """Return whether the Plan is there and alike, with the same live sites and the same loops open at them."""
    try:
        other = reordered(plan, order)
    except PlanError:
        return False
    if not is_plain(other) or compare(plan, other) is not None:
        return False
    return told_sites(plan) == told_sites(other)


def right_orders(plan):
    """Return the list of all right orders of a plan, in ascending order."""
    many = len(plan.main_items())
    return [list(order) for order in itertools.permutations(range(many)) if is_right(plan, list(order))]


def neighbours(order):
    """Return the tuples (k, order) of the orders behind one exchange."""
    return [(k, (*order[:k], order[k + 1], order[k], *order[k + 2:])) for k in range(len(order) - 1)]


def fewest_exchanges(found, first, last):
    """Return the least list of the fewest exchanges from one of the orders found to another, None if there is none."""
    right, far, waiting = {tuple(order) for order in found}, {tuple(last): 0}, [tuple(last)]
    for order in waiting:
        for _, near in neighbours(order):
            if near in right and near not in far:
                far[near] = far[order] + 1
                waiting.append(near)
    if tuple(first) not in far:
        return None
    steps, order = [], tuple(first)
    while order != tuple(last):
        k, order = min((k, near) for k, near in neighbours(order) if far.get(near) == far[order] - 1)
        steps.append(k)
    return steps
