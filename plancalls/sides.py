"""Sides: the sites of two plain plans side by side."""

from plancalls.bonds import are_entailed
from plancalls.forms import changed_tie
from plancalls.outlines import order_key


class Sides:
    """Two plain plans, told as Outlines: the plan with the number 0, and the one with the number 1."""

    def __init__(self, one, other):
        self._outlines = (one, other)
        self._places = (places_of(one), places_of(other))
        self._keys = ({}, {})

    def plan(self, which):
        """Return one of the plans."""
        return self._outlines[which].plan()

    def outline(self, which):
        """Return the Outline of one of the plans."""
        return self._outlines[which]

    def most(self, stream):
        """Return how many live sites of a stream the plan has that has more of them."""
        return max([len(places.get(stream, [])) for places in self._places])

    def places(self, stream, index):
        """Return the places of a site in the two plans, None where there is none."""
        found = [places.get(stream, []) for places in self._places]
        return tuple([places[index] if 0 <= index < len(places) else None for places in found])

    def difference(self, stream, index):
        """Return the word for the difference of two sites, None if there is none."""
        first, second = self.places(stream, index)
        if first is None or second is None:
            return "lacking"
        if self.called(0, first) != self.called(1, second):
            return "function"
        if self.marked(0, first) != self.marked(1, second):
            return "marks"
        if not are_entailed(self._outlines[0].bonds(first), self.claims(1, second)):
            return "conditions"
        if not are_entailed(self._outlines[1].bonds(second), self.claims(0, first)):
            return "conditions"
        equal = self.argument_claims(0, first, second)
        if equal is None or not are_entailed(self._outlines[0].bonds(first), equal):
            return "arguments"
        if not self._has_same_order(first, second):
            return "order"
        return None

    def called(self, which, place):
        """Return the function that is called at a site, None at the end."""
        steps = self.plan(which).steps()
        return steps[place][2] if place < len(steps) else None

    def marked(self, which, place):
        """Return the ascending list of the marked loops that are open at a place."""
        loops = self.plan(which).open_at(place)
        return [loop for loop in self.plan(which).marks() if loop in loops]

    def claims(self, which, place):
        """Return the claims that the other plan has to entail for the conditions at a site of one of the plans."""
        outline = self._outlines[which]
        keys = self._written_keys(which, place)
        found = [("had", self.plan(which).table_of(loop), keys[loop]) for loop in keys]
        for word, one, other in outline.conditions(place):
            found.append((word, replaced(one, keys), replaced(other, keys)))
        return found

    def argument_claims(self, which, place, other_place):
        """Return the claims that the arguments at two sites are equal, None if they are not as many."""
        terms = self._terms(which, place)
        others = self._terms(1 - which, other_place)
        if len(terms) != len(others):
            return None
        keys = self._written_keys(1 - which, other_place)
        return [("same", term, replaced(other, keys)) for term, other in zip(terms, others)]

    def order_keys(self, which, place):
        """Return the list of the order keys at a site of one of the plans, as the other one takes them."""
        keys = self._written_keys(which, place)
        found = self._outlines[which].order_keys(place)
        return [row if row[0] == "loop" else (*row[:2], replaced(row[2], keys)) for row in found]

    def shared_keys(self, which, place, other_place):
        """Return how many of the leading order keys at a site of one of the plans equal those of the other one."""
        own = self._outlines[which].order_keys(place)
        others = self.order_keys(1 - which, other_place)
        many = 0
        while many < min(len(own), len(others)) and self._is_same_row(which, place, own[many], others[many]):
            many += 1
        return many

    def _has_same_order(self, first, second):
        many = self.shared_keys(0, first, second)
        return many == len(self._outlines[0].order_keys(first)) == len(self._outlines[1].order_keys(second))

    def _is_same_row(self, which, place, one, other):
        """Return whether two order keys are equal by the conditions at a place of one of the plans."""
        if one[0] == "loop" or other[0] == "loop":
            return one == other
        return one[1] == other[1] and are_entailed(self._outlines[which].bonds(place), [("same", one[2], other[2])])

    def _terms(self, which, place):
        """Return the list of the ties of the arguments at a site, of the shown terms at the end."""
        steps = self.plan(which).steps()
        terms = steps[place][3] if place < len(steps) else self.plan(which).shown()
        return [self._outlines[which].tie(term) for term in terms]

    def _written_keys(self, which, place):
        """Return the dict from the loops at a site that are not marked to ties of marked ones for their keys."""
        if place not in self._keys[which]:
            self._keys[which][place] = self._worked_out_keys(which, place)
        return self._keys[which][place]

    def _worked_out_keys(self, which, place):
        outline = self._outlines[which]
        bonds = outline.bonds(place)
        marked = self.marked(which, place)
        found = outline.ground(place, bonds, marked)
        keys = {}
        for loop in bonds.tables():
            if loop not in marked:
                row = order_key(self.plan(which), loop)
                keys[loop] = found[bonds.head_of(row[2])]
        return keys


def places_of(outline):
    """Return the dict from streams to the lists of the places of their live sites."""
    found = {}
    for stream, _, place in outline.sites():
        found.setdefault(stream, []).append(place)
    return found


def replaced(tie, keys):
    """Return a tie with other ties in the place of the keys of loops."""
    return changed_tie(tie, lambda inner: keys[inner[1]] if inner[0] == "cell" and inner[1] in keys else inner)
