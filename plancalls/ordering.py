"""Orderings: the right orders of a plan, found item by item."""

from plancalls.outlines import Outline
from plancalls.plans import USE, Plan
from plancalls.runs import stream_of
from plancalls.sides import Sides
from plancalls.sites import hidden_by


class Ordering:
    """The right orders of a plain plan, told as an Outline; an order that has begun is a list of indexes.

    What can stand behind a beginning hangs only on the items that are in it and on the order of the loops among them.
    """

    def __init__(self, outline):
        self._outline = outline
        self._plan = outline.plan()
        self._items = self._plan.main_items()
        self._wanted = [wanted_ahead(self._plan, item) for item in self._items]
        self._bound = [at for at, item in enumerate(self._items) if is_bound_call(self._plan.schema, item)]
        self._looping = [at for at, item in enumerate(self._items) if item[0] in ("each", "use")]
        self._sites = {}
        self._ends = {}
        self._counts = {}

    def begins(self, begun):
        """Return whether each of the indexes may stand behind those before it."""
        for many, at in enumerate(begun):
            if not self._fits(begun[:many], at):
                return False
        return True

    def is_right(self, order):
        """Return whether an order of all items is right."""
        return self.begins(order) and self._ends_well(order)

    def next_of(self, begun):
        """Return the ascending list of the indexes that stand behind a beginning in right orders."""
        return [at for at in self._fitting(begun) if self._leads_on([*begun, at])]

    def first_from(self, begun):
        """Return the first right order that begins so; there is one."""
        while len(begun) < len(self._items):
            begun = [*begun, self.next_of(begun)[0]]
        return begun

    def first_behind(self, order):
        """Return the right order that follows a right order, None if it is the last one."""
        for many in reversed(range(len(order))):
            greater = [at for at in self.next_of(order[:many]) if at > order[many]]
            if greater:
                return self.first_from([*order[:many], greater[0]])
        return None

    def many_from(self, begun):
        """Return how many right orders begin so."""
        key = self._state(begun)
        if key not in self._counts:
            self._counts[key] = self._counted_from(begun)
        return self._counts[key]

    def _counted_from(self, begun):
        if len(begun) == len(self._items):
            return 1 if self._ends_well(begun) else 0
        return sum([self.many_from([*begun, at]) for at in self._fitting(begun)])

    def _leads_on(self, begun):
        """Return whether some right order begins so."""
        key = self._state(begun)
        if key not in self._ends:
            self._ends[key] = self._comes_to_an_end(begun)
        return self._ends[key]

    def _comes_to_an_end(self, begun):
        if len(begun) == len(self._items):
            return self._ends_well(begun)
        for at in self._fitting(begun):
            if self._leads_on([*begun, at]):
                return True
        return False

    def _fitting(self, begun):
        """Return the ascending list of the indexes that may stand behind a beginning."""
        return [at for at in range(len(self._items)) if self._fits(begun, at)]

    def _fits(self, begun, at):
        """Return whether an index may stand behind a beginning: a plan comes of it, and a site stays what it is."""
        if at in begun or not all([ahead in begun for ahead in self._wanted[at]]):
            return False
        return at in self._bound or self._items[at][0] != "call" or self._keeps_site(begun, at)

    def _ends_well(self, order):
        """Return whether the end stays what it is behind an order of all items."""
        return self._keeps_site(order, len(self._items))

    def _keeps_site(self, begun, at):
        """Return whether the site of an index, the end for their number, stays what it is behind a beginning."""
        # Calls that make no site say nothing of what stands behind them.
        telling = [index for index in begun if index not in self._bound]
        key = (at, *self._state(telling))
        if key not in self._sites:
            self._sites[key] = self._is_kept_site(begun, at)
        return self._sites[key]

    def _is_kept_site(self, begun, at):
        outline = Outline(self._begun_plan([*begun, at]))
        kept = len(self._plan.kept())
        own, place = kept + at, len(outline.plan().kept()) + len(begun)
        sites = [site for site in self._outline.sites() if site[2] == own]
        others = [site for site in outline.sites() if site[2] == place]
        if not sites:
            return not others
        if sorted(self._plan.open_at(own)) != sorted(outline.plan().open_at(place)):
            return False
        if hidden_by(outline, outline.plan().marks()) is not None:
            return False
        return Sides(self._outline, outline).difference(sites[0][0], sites[0][1]) is None

    def _begun_plan(self, indexes):
        """Return the Plan of the items with some indexes; the number of all items stands for the end."""
        if indexes[-1] == len(self._items):
            return self._plan.with_items([self._items[at] for at in indexes[:-1]])
        items = [self._items[at] for at in indexes]
        kept = self._plan.kept() if USE in items else []
        loops = [item[1] for item in kept + items if item[0] == "each"]
        marks = [loop for loop in self._plan.marks() if loop in loops]
        return Plan(self._plan.schema, items, marks=marks, kept=kept)

    def _state(self, begun):
        """Return what a beginning is known by: its items, and the order of the loops among them."""
        return (tuple(sorted(begun)), tuple([at for at in begun if at in self._looping]))


def wanted_ahead(plan, item):
    """Return the list of the indexes of the main items that give what the terms of an item read."""
    names = [term[0] if isinstance(term, tuple) else term for term in terms_of(item)]
    given = {}
    for at, other in enumerate(plan.main_items()):
        for each in (plan.kept() if other == USE else [other]):
            if each[0] in ("each", "call"):
                given[each[1]] = at
    return sorted({given[name] for name in names if isinstance(name, str)})


def terms_of(item):
    """Return the list of the terms of an item."""
    if item[0] == "call":
        return list(item[3])
    if item[0] in ("same", "unlike"):
        return list(item[1:])
    return []


def is_bound_call(schema, item):
    """Return whether an item calls a fixed or a stable function."""
    return item[0] == "call" and stream_of(schema, item[2]) is None
