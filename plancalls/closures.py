"""Closures: what conditions entail."""

from plancalls.bonds import is_entailed
from plancalls.outlines import Outline


class Closure:
    """The conditions at a place of a plan, and more of them; it never changes."""

    def __init__(self, plan, place, *, more=()):
        self._bonds = Outline(plan).bonds(place)
        for word, one, other in more:
            self._bonds.bind(word, one, other)
        self._bonds.settle()

    def clashes(self):
        """Return whether the conditions clash."""
        return self._bonds.clashes()

    def classes(self):
        """Return the ascending list of the classes of the ties that occur, each an ascending list."""
        found = {}
        for number, tie in enumerate(self._bonds.ties()):
            found.setdefault(self._bonds.head(number), []).append(tie)
        return sorted([sorted(found[head]) for head in found])

    def same(self, one, other):
        """Return whether the conditions entail that two ties are equal."""
        return self.entails(("same", one, other))

    def unlike(self, one, other):
        """Return whether the conditions entail that two ties are unlike."""
        return self.entails(("unlike", one, other))

    def had(self, table, tie):
        """Return whether the conditions entail that a table has the row of a tie."""
        return self.entails(("had", table, tie))

    def entails(self, claim):
        """Return whether the conditions entail a claim."""
        return is_entailed(self._bonds, claim)
