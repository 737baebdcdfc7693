"""Orders: in which orders the main items of a plan may stand such that it stays alike."""

from plancalls.errors import NoNumber
from plancalls.kinds import is_integer
from plancalls.ordering import Ordering
from plancalls.sites import plain_outline


def reordered(plan, order):
    """Return the Plan with the main items in an order."""
    items = plan.main_items()
    return plan.with_items([items[at] for at in order])


def is_order(plan, thing):
    """Return whether thing is a right order of a plan."""
    ordering = Ordering(plain_outline(plan))
    return is_order_of(len(plan.main_items()), thing) and ordering.is_right(thing)


def orders(plan):
    """Yield all right orders of a plan, in ascending order."""
    ordering = Ordering(plain_outline(plan))
    order = ordering.first_from([])
    while order is not None:
        yield list(order)
        order = ordering.first_behind(order)


def how_many(plan):
    """Return how many right orders a plan has."""
    return Ordering(plain_outline(plan)).many_from([])


def order_at(plan, number):
    """Return the right order with this number."""
    ordering = Ordering(plain_outline(plan))
    if not 0 <= number < ordering.many_from([]):
        raise NoNumber(number)
    order = []
    left = number
    while len(order) < len(plan.main_items()):
        for at in ordering.next_of(order):
            many = ordering.many_from([*order, at])
            if left < many:
                order = [*order, at]
                break
            left -= many
    return order


def number_of(plan, order):
    """Return the number of a right order."""
    ordering = Ordering(plain_outline(plan))
    number = 0
    for many, at in enumerate(order):
        less = [other for other in ordering.next_of(order[:many]) if other < at]
        number += sum([ordering.many_from([*order[:many], other]) for other in less])
    return number


def next_items(plan, begun):
    """Return the ascending list of the indexes that stand directly behind a beginning in right orders."""
    ordering = Ordering(plain_outline(plan))
    if not are_indexes(len(plan.main_items()), begun) or not ordering.begins(begun):
        return []
    return ordering.next_of(begun)


def exchanges(plan, first, last):
    """Return the least list of the fewest exchanges that lead from one right order to another one."""
    ordering = Ordering(plain_outline(plan))
    found = straight(first, last, lambda order: ordering.is_right(order))
    if found is None:
        # References can part the right orders: no way leads from one to the other by right ones alone.
        found = straight(first, last, lambda order: True)
    return found


def straight(first, last, may_stand):
    """Return the least list of exchanges of items that stand the other way about, None if they lead to nothing."""
    found = []
    order = list(first)
    while order != last:
        ways = [at for at in inverted(order, last) if may_stand(exchanged(order, at))]
        if not ways:
            return None
        found.append(ways[0])
        order = exchanged(order, ways[0])
    return found


def inverted(order, last):
    """Return the ascending list of the exchanges of items that stand the other way about in the last order."""
    return [at for at in range(len(order) - 1) if last.index(order[at]) > last.index(order[at + 1])]


def exchanged(order, at):
    """Return an order with what is at an index and behind it exchanged."""
    return [*order[:at], order[at + 1], order[at], *order[at + 2:]]


def is_order_of(many, thing):
    """Return whether thing, any value, is a list of so many indexes, each once."""
    return are_indexes(many, thing) and sorted(thing) == list(range(many))


def are_indexes(many, thing):
    """Return whether thing, any value, is a list of indexes below a number."""
    return isinstance(thing, list) and all([is_integer(part) and 0 <= part < many for part in thing])
