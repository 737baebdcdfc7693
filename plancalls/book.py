"""Books: plans that are written deed by deed."""

from plancalls.deeds import done, is_deed
from plancalls.errors import Full, NoEntry, Nothing, Wrong
from plancalls.plans import Plan
from plancalls.schemas import Schema

MOST_DEEDS = 60


class Book:
    """A Plan, the log of the deeds that lead to it, and the deeds that were taken back."""

    def __init__(self, schema):
        if not isinstance(schema, Schema):
            raise Wrong(0)
        self._first = schema
        self._schema = schema
        # The Plans behind none of the deeds, the first one, the first two ..
        self._plans = [Plan(schema, [])]
        self._log = []
        self._undone = []

    @property
    def schema(self):
        """The Schema of the Plan."""
        return self._schema

    def do(self, deed):
        """Do a deed and put it behind the log."""
        if not is_deed(deed):
            raise Wrong(0)
        if len(self._log) >= MOST_DEEDS:
            raise Full(MOST_DEEDS)
        self._go_on(deed)
        self._undone = []

    def back(self):
        """Take the last deed of the log back, and return it."""
        if not self._log:
            raise Nothing()
        self._plans.pop()
        self._schema = self._plans[-1].schema
        deed = self._log.pop()
        self._undone.append(deed)
        return deed

    def again(self):
        """Do the deed again that was taken back last, and return it."""
        if not self._undone:
            raise Nothing()
        deed = self._undone.pop()
        self._go_on(deed)
        return deed

    def log(self):
        """Return the list of the deeds."""
        return list(self._log)

    def plan(self):
        """Return the Plan."""
        return self._plans[-1]

    def until(self, many):
        """Return the Plan behind the first deeds of the log."""
        if not 0 <= many <= len(self._log):
            raise NoEntry(many)
        return self._plans[many]

    def copied(self):
        """Return a Book with the same log and the same deeds to do again."""
        twin = Book(self._first)
        twin._schema = self._schema
        twin._plans = list(self._plans)
        twin._log = list(self._log)
        twin._undone = list(self._undone)
        return twin

    def __eq__(self, other):
        if not isinstance(other, Book):
            return False
        return self._first == other._first and self._log == other._log

    def __len__(self):
        return len(self._log)

    def _go_on(self, deed):
        """Do a deed that may be done."""
        plan = done(self._plans[-1], deed)
        self._plans.append(plan)
        self._schema = plan.schema
        self._log.append(deed)
