"""Outlines: what the items of a plan say at each of its places, worked out once, place by place."""

from plancalls.bonds import Bonds, leads_of
from plancalls.plans import USE
from plancalls.runs import stream_of


class Outline:
    """The ties of a plan, the conditions and the Bonds at each place, and its live sites."""

    def __init__(self, plan):
        self._plan = plan
        self._ties = {}
        self._conditions = []
        self._bonds = []
        self._sites = []
        self._told = {}
        self._keys = {}
        leads = leads_of(plan.schema)
        self._pass([], plan.kept(), Bonds(plan.schema, leads))
        self._pass(plan.kept(), [*plan.main_items(), None], Bonds(plan.schema, leads))

    def plan(self):
        """Return the Plan."""
        return self._plan

    def tie(self, term):
        """Return the tie of a term."""
        if isinstance(term, str):
            return self._ties[term]
        if isinstance(term, tuple):
            return column_tie(self._plan, term[0], term[1])
        return ("int", term)

    def conditions(self, place):
        """Return the list of the conditions at a place, in order."""
        return list(self._conditions[place])

    def bonds(self, place):
        """Return Bonds, for the caller to keep, with the conditions at a place and the loops that are open there."""
        return self._bonds[place].copied()

    def clashes(self, place):
        """Return whether the conditions at a place clash."""
        return self._bonds[place].clashes()

    def sites(self):
        """Return the list of the live sites, tuples (stream, index, place), in the order of their places."""
        return list(self._sites)

    def sites_ahead(self, place):
        """Return the list of the live sites ahead of a place."""
        kept = len(self._plan.kept())
        used = self._plan.steps()[kept:place].count(USE) > 0
        return [site for site in self._sites if site[2] < place and (site[2] >= kept or place < kept or used)]

    def order_keys(self, place):
        """Return the list of the order keys at a place."""
        if place not in self._keys:
            self._keys[place] = self._worked_out_keys(place)
        return list(self._keys[place])

    def ground(self, place, bonds, loops, rows=()):
        """Return the dict from the classes that are ground over loops and rows to ties that show it.

        bonds are those at the place, perhaps with more ties; they have the ties of rows.
        """
        keys = {site[:2]: self.order_keys(site[2]) for site in self.sites_ahead(place)}
        found = {bonds.head_of(row[2]): row[2] for row in rows if row[0] == "row"}
        begun = [*loops, *[row[1] for row in rows if row[0] == "loop"]]
        many = -1
        while many != len(found):
            many = len(found)
            # A round takes only what earlier rounds found: so the ties stay as flat as can be.
            new = next_ground(bonds, begun, keys, found)
            found.update(new)
        return found

    def settled_by(self, place, loops):
        """Return the list of the loops open at a place that are settled by loops, or of them, in order."""
        bonds = self.bonds(place)
        found = self.ground(place, bonds, loops)
        rows = [(loop, order_key(self._plan, loop)) for loop in bonds.tables()]
        return [loop for loop, row in rows if loop in loops or (row[0] == "row" and bonds.head_of(row[2]) in found)]

    def _pass(self, kept, items, bonds):
        """Go through items from place to place; None stands for the end."""
        conditions = []
        for item in items:
            bonds.settle()
            self._conditions.append(list(conditions))
            self._bonds.append(bonds.copied())
            if item is None:
                self._tell_site(".", len(self._bonds) - 1)
            elif item[0] == "call":
                self._name_answer(item, len(self._bonds) - 1)
            for passed in (kept if item == USE else [item]):
                self._take(passed, conditions, bonds)

    def _take(self, item, conditions, bonds):
        """Put what an item says to the conditions and the Bonds behind it."""
        if item is None:
            return
        if item[0] == "each":
            bonds.begin_loop(item[1], item[2])
        elif item[0] in ("same", "unlike"):
            condition = (item[0], self.tie(item[1]), self.tie(item[2]))
            conditions.append(condition)
            bonds.bind(condition[0], condition[1], condition[2])

    def _name_answer(self, item, place):
        """Note the tie of the answer of a call."""
        stream = stream_of(self._plan.schema, item[2])
        if stream is None:
            self._ties[item[1]] = ("ask", item[2], tuple([self.tie(term) for term in item[3]]))
        else:
            self._ties[item[1]] = ("told", stream, self._tell_site(stream, place))

    def _tell_site(self, stream, place):
        """Note a site, if it is live, and return its index, otherwise -1."""
        if self.clashes(place):
            return -1
        index = self._told.get(stream, 0)
        self._told[stream] = index + 1
        self._sites.append((stream, index, place))
        return index

    def _worked_out_keys(self, place):
        keys = []
        before = []
        for loop in self._bonds[place].tables():
            if loop not in self.settled_by(place, before):
                keys.append(order_key(self._plan, loop))
            before.append(loop)
        return keys


def next_ground(bonds, loops, keys, found):
    """Return the dict from classes to ties of those that the ground classes found make ground."""
    new = {}
    for number in range(bonds.many()):
        head = bonds.head(number)
        if head not in found and head not in new:
            tie = ground_tie(bonds, loops, keys, found, bonds.parts(number))
            if tie is not None:
                new[head] = tie
    return new


def ground_tie(bonds, loops, keys, found, parts):
    """Return a tie with these parts if they make it ground, otherwise None."""
    if parts[0] == "int" or (parts[0] == "cell" and parts[1] in loops):
        return parts
    if parts[0] == "look":
        inner = found.get(bonds.head(parts[3]))
        return None if inner is None else ("look", parts[1], parts[2], inner)
    if parts[0] == "ask":
        inner = [found.get(bonds.head(part)) for part in parts[2]]
        return None if None in inner else ("ask", parts[1], tuple(inner))
    if parts[0] == "told" and parts[1:] in keys:
        rows = keys[parts[1:]]
        return parts if all([is_ground_row(bonds, loops, found, row) for row in rows]) else None
    return None


def is_ground_row(bonds, loops, found, row):
    """Return whether an order key is one of the loops, or the class of its key is ground."""
    if row[0] == "loop":
        return row[1] in loops
    return bonds.head_of(row[2]) in found


def order_key(plan, loop):
    """Return the order key of a loop."""
    table = plan.table_of(loop)
    key = plan.schema.key(table)
    if key is None:
        return ("loop", loop)
    return ("row", table, ("cell", loop, key))


def column_tie(plan, loop, column):
    """Return the tie of a column of a loop."""
    table = plan.table_of(loop)
    key = plan.schema.key(table)
    if key is None or key == column:
        return ("cell", loop, column)
    return ("look", table, column, ("cell", loop, key))
