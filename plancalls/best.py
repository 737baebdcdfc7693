"""Best: which of several plans that are alike run their items least often."""

from plancalls.callings import Calling
from plancalls.contests import Contest
from plancalls.errors import TooMany
from plancalls.fewer import alike_sides, bound_answers
from plancalls.ordering import Ordering
from plancalls.puttings import is_never_more
from plancalls.sites import plain_outline


def undominated(plans):
    """Return the ascending list of the indexes of the plans than which no other one is fewer."""
    over = excesses(plans)
    return [j for j in range(len(plans)) if not any([is_fewer(over, i, j) for i in range(len(plans))])]


def best(plans):
    """Return the least index of a plan that is fewer or even against each other one, None if there is none."""
    over = excesses(plans)
    for i in range(len(plans)):
        if not any([(i, j) in over for j in range(len(plans))]):
            return i
    return None


def bests(plan, *, most=200):
    """Return the ascending list of the right orders of a plan than which no other one is fewer."""
    ordering = Ordering(plain_outline(plan))
    if ordering.many_from([]) > most:
        raise TooMany(most)
    found = []
    order = ordering.first_from([])
    while order is not None:
        found.append(order)
        order = ordering.first_behind(order)
    return unbeaten(Contest(plan), found)


def papers(plans):
    """Return the ascending list of the tuples (i, j, answer) of plans of which the first may run an item more often."""
    over = excesses(plans)
    return sorted([(i, j, over[(i, j)]) for i, j in over])


def excesses(plans):
    """Return the dict from pairs (i, j) to the least answer of an item that plan i may run more often than plan j."""
    over = {}
    for i in range(len(plans)):
        for j in range(i + 1, len(plans)):
            sides = alike_sides(plans[i], plans[j])
            for answer in bound_answers(plans[i], plans[j]):
                one, other = [Calling(sides.outline(which), answer) for which in (0, 1)]
                if not is_never_more(one, other):
                    over.setdefault((i, j), answer)
                if not is_never_more(other, one):
                    over.setdefault((j, i), answer)
    return over


def is_fewer(over, i, j):
    """Return whether plan i is fewer than plan j."""
    return (i, j) not in over and (j, i) in over


def unbeaten(contest, found):
    """Return the list of those of the right orders than which no other one is fewer."""
    numbers = [contest.number_of(order) for order in found]
    judged = {}
    beaten = {}
    for i, one in enumerate(numbers):
        for other in numbers[i + 1:]:
            if (one, other) not in judged:
                judged[(one, other)] = True
                more, less = contest.over(one, other)
                if more != less:
                    beaten[one if more else other] = True
    return [order for order, number in zip(found, numbers) if number not in beaten]
