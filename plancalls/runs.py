"""Runs: how a plan runs on contents, with functions."""


class Run:
    """One run of a plan: it goes on from row to row, and keeps the calls that it has made."""

    def __init__(self, plan, contents, functions):
        self._plan = plan
        self._steps = plan.steps()
        self._first = len(plan.kept())
        self._rows = {table: named_rows(contents, table) for table in plan.schema.tables()}
        self._functions = dict(functions)
        self._marked = [marked_at(plan, place) for place in range(len(self._steps) + 1)]
        # Loops and answers of a plan have different names: one dict has the row numbers and the values.
        self._known = {}
        # A stack instead of recursion, so that a run can stop at a row and go on from there.
        self._turns = []
        self._kept_rows = None
        self._many = {}
        self._calls = []

    def next_row(self):
        """Go on just as far as the next row and return it, None if the run has come to its end."""
        if self._kept_rows is None:
            self._kept_rows = self._run_kept()
            reached = self._reach(self._first, len(self._steps))
        else:
            reached = self._reach(self._next_turn(), len(self._steps))
        if not reached:
            return None
        return (self._numbers(len(self._steps)), self._values(self._plan.shown()))

    def rows_left(self):
        """Go on to the end of the run and return the list of the rows on the way."""
        found = []
        row = self.next_row()
        while row is not None:
            found.append(row)
            row = self.next_row()
        return found

    def calls(self):
        """Return the list of the calls up to now: (answer, function, arguments, many, value, numbers)."""
        return list(self._calls)

    def _run_kept(self):
        """Run the kept items once and return the list of the rows that are kept."""
        kept = []
        reached = self._reach(0, self._first)
        while reached:
            kept.append(dict(self._known))
            reached = self._reach(self._next_turn(), self._first)
        return kept

    def _reach(self, place, end):
        """Run the steps from a place on, None for nowhere, and return whether the end is reached."""
        while place is not None and place < end:
            place = self._run_step(place)
        return place is not None

    def _run_step(self, place):
        """Run one step and return the place at which the run goes on, None if no loop has a turn left."""
        item = self._steps[place]
        if item[0] == "each":
            return self._begin_turns(place, [{item[1]: number} for number in range(len(self._rows[item[2]]))])
        if item[0] == "use":
            return self._begin_turns(place, self._kept_rows)
        if item[0] == "call":
            self._call(place)
            return place + 1
        equal = self._value(item[1]) == self._value(item[2])
        if equal == (item[0] == "same"):
            return place + 1
        return self._next_turn()

    def _begin_turns(self, place, turns):
        """Begin a loop with these turns, each a dict of what it makes known, and take its first one."""
        self._turns.append((place + 1, turns[::-1]))
        return self._next_turn()

    def _next_turn(self):
        """Take the next turn of the innermost loop that has one left; return the place behind this loop, or None."""
        while self._turns:
            behind, left = self._turns[-1]
            if left:
                self._known.update(left.pop())
                return behind
            self._turns.pop()
        return None

    def _call(self, place):
        """Run the call at a place."""
        answer, name, terms = self._steps[place][1:]
        arguments = self._values(terms)
        many = self._count(name)
        value = self._answer(place, name, arguments, many)
        self._known[answer] = value
        self._calls.append((answer, name, arguments, many, value, self._numbers(place)))

    def _answer(self, _, name, arguments, many):
        """Return what a function answers to the call at a place."""
        function = self._functions[name]
        return function(arguments, many)

    def _count(self, name):
        """Return what many is for the call of a function that is made now, and count this call."""
        stream = stream_of(self._plan.schema, name)
        if stream is None:
            return 0
        many = self._many.get(stream, 0)
        self._many[stream] = many + 1
        return many

    def _numbers(self, place):
        """Return the numbers of the rows at which the marked loops that are open at a place are."""
        return tuple([(loop, self._known[loop]) for loop in self._marked[place]])

    def _values(self, terms):
        return tuple([self._value(term) for term in terms])

    def _value(self, term):
        if isinstance(term, tuple):
            loop, column = term
            return self._rows[self._plan.table_of(loop)][self._known[loop]][column]
        if isinstance(term, str):
            return self._known[term]
        return term


def named_rows(contents, table):
    """Return the list of the rows of a table as dicts from columns to values."""
    columns = contents.schema.columns(table)
    return [dict(zip(columns, row)) for row in contents.rows(table)]


def marked_at(plan, place):
    """Return the ascending list of the marked loops that are open at a place."""
    loops = plan.open_at(place)
    return [loop for loop in plan.marks() if loop in loops]


def stream_of(schema, function):
    """Return the stream of the calls of a function, None for a fixed or a stable one."""
    kind = schema.kind(function)
    if kind == "changing":
        return function
    if kind == "effect":
        return ""
    return None


def walk(plan, contents, functions):
    """Yield the rows that a run gives out, each as soon as the run comes to it."""
    run = Run(plan, contents, functions)
    row = run.next_row()
    while row is not None:
        yield row
        row = run.next_row()


def traced(plan, contents, functions):
    """Return the list of all calls of a run, as tuples (answer, function, arguments, many, value)."""
    run = Run(plan, contents, functions)
    run.rows_left()
    return [call[:5] for call in run.calls()]
