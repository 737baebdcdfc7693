"""Contests: right orders of one plan against one another."""

from plancalls.callings import Calling
from plancalls.fewer import bound_answers
from plancalls.ordering import is_bound_call
from plancalls.orders import reordered
from plancalls.outlines import Outline
from plancalls.puttings import is_never_more


class Contest:
    """Right orders of a plan: how often an item is run hangs only on what is ahead of it that makes a difference."""

    def __init__(self, plan):
        self._plan = plan
        self._answers = bound_answers(plan, plan)
        self._numbers = {}
        self._states = []
        self._callings = {}
        self._never = {}

    def number_of(self, order):
        """Return a number for a right order; orders with the same number run all items equally often."""
        states = tuple([(answer, self._ahead(order, answer)) for answer in self._answers])
        if states not in self._numbers:
            self._numbers[states] = len(self._states)
            self._states.append(states)
            outline = Outline(reordered(self._plan, order))
            for state in states:
                self._callings.setdefault(state, Calling(outline, state[0]))
        return self._numbers[states]

    def over(self, one, other):
        """Return whether orders with the number one may run an item more often than those of other, and the reverse."""
        never = []
        for first, second in zip(self._states[one], self._states[other]):
            never.append((self._is_never_more(first, second), self._is_never_more(second, first)))
        return (False in [pair[0] for pair in never], False in [pair[1] for pair in never])

    def _ahead(self, order, answer):
        """Return the tuple of the indexes of the items that make a difference ahead of the call with an answer."""
        items = self._plan.main_items()
        at = self._plan.place_of(answer) - len(self._plan.kept())
        if at < 0:
            return ()
        ahead = order[:order.index(at)]
        return tuple(sorted([index for index in ahead if not is_bound_call(self._plan.schema, items[index])]))

    def _is_never_more(self, first, second):
        if (first, second) not in self._never:
            self._never[(first, second)] = is_never_more(self._callings[first], self._callings[second])
        return self._never[(first, second)]
