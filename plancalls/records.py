"""Records: what a run gives out and calls."""

from plancalls.errors import Unknown
from plancalls.runs import Run, stream_of


class Record:
    """The rows and calls of one run of a plan; it is made by record, and never changes."""

    def __init__(self, plan, rows, calls):
        schema = plan.schema
        self._rows = list(rows)
        self._effects = []
        self._calls = {name: [] for name in schema.functions() if schema.kind(name) == "changing"}
        self._counts = {name: 0 for name in schema.functions()}
        self._answer_counts = {name: 0 for name in plan.answers()}
        for answer, function, arguments, _, _, numbers in calls:
            self._counts[function] += 1
            self._answer_counts[answer] += 1
            stream = stream_of(schema, function)
            if stream == "":
                self._effects.append((function, arguments, numbers))
            elif stream is not None:
                self._calls[stream].append((function, arguments, numbers))

    def rows(self):
        """Return the list of the rows that were given out."""
        return list(self._rows)

    def calls(self, function):
        """Return the list of the calls of a changing function."""
        if function not in self._calls:
            raise Unknown(function)
        return list(self._calls[function])

    def effects(self):
        """Return the list of the calls of all effect functions together."""
        return list(self._effects)

    def counted(self, function):
        """Return how often a function of any kind was called."""
        if function not in self._counts:
            raise Unknown(function)
        return self._counts[function]

    def counted_at(self, answer):
        """Return how often the item with this answer was run."""
        if answer not in self._answer_counts:
            raise Unknown(answer)
        return self._answer_counts[answer]

    def parts(self, other):
        """Return the ascending list of the streams in which the Records differ."""
        one = self._streams()
        another = other._streams()
        names = sorted(set(one) | set(another))
        return [name for name in names if one.get(name) != another.get(name)]

    def __eq__(self, other):
        if not isinstance(other, Record):
            return False
        return len(self.parts(other)) == 0

    def __len__(self):
        return len(self._rows)

    def _streams(self):
        return {**self._calls, ".": self._rows, "": self._effects}


def record(plan, contents, functions):
    """Run a plan once and return the Record of the run."""
    run = Run(plan, contents, functions)
    return record_of(plan, run.rows_left(), run)


def record_of(plan, rows, run):
    """Return the Record of a run that has come to its end, with the rows that it gave out."""
    return Record(plan, rows, run.calls())
