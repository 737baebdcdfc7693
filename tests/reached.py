"""Where a run comes by, and what ties and claims are there: told plainly, by the definitions."""


class Reached:
    """All times at which a run reaches each place: the numbers of the rows of the loops and the answers known."""

    def __init__(self, plan, contents, functions):
        self.plan, self.contents, self.functions = plan, contents, functions
        self.times = [[] for _ in range(len(plan.steps()) + 1)]
        self.many = {}
        self.kept = []
        self.run(plan.kept(), 0, {}, {}, self.keep)
        self.run(plan.main_items(), len(plan.kept()), {}, {}, self.end)

    def run(self, items, place, numbers, answers, at_end):
        if not items:
            at_end(numbers, answers)
            return
        self.times[place].append((numbers, answers))
        item, behind = items[0], items[1:]
        if item[0] == "each":
            for number in range(self.contents.size(item[2])):
                self.run(behind, place + 1, {**numbers, item[1]: number}, answers, at_end)
        elif item[0] == "use":
            for kept_numbers, kept_answers in self.kept:
                self.run(behind, place + 1, {**numbers, **kept_numbers}, {**answers, **kept_answers}, at_end)
        elif item[0] == "call":
            value = self.call(item, numbers, answers)
            self.run(behind, place + 1, numbers, {**answers, item[1]: value}, at_end)
        else:
            first, second = [self.term(term, numbers, answers) for term in item[1:]]
            if (first == second) is (item[0] == "same"):
                self.run(behind, place + 1, numbers, answers, at_end)

    def keep(self, numbers, answers):
        self.kept.append((numbers, answers))

    def end(self, numbers, answers):
        self.times[-1].append((numbers, answers))

    def call(self, item, numbers, answers):
        stream = stream_of(self.plan.schema, item[2])
        many = 0
        if stream is not None:
            many = self.many.get(stream, 0)
            self.many[stream] = many + 1
        return self.functions[item[2]](tuple(self.term(term, numbers, answers) for term in item[3]), many)

    def cell(self, loop, column, numbers):
        table = self.plan.table_of(loop)
        return self.contents.rows(table)[numbers[loop]][self.plan.schema.columns(table).index(column)]

    def term(self, term, numbers, answers):
        if isinstance(term, tuple):
            return self.cell(*term, numbers)
        return answers[term] if isinstance(term, str) else term

    def value(self, tie, numbers, answers, sites):
        """Return the value of a tie, None if it has none; sites is a dict from (stream, index) to answers."""
        if tie[0] == "int":
            return tie[1]
        if tie[0] == "cell":
            return self.cell(tie[1], tie[2], numbers)
        if tie[0] == "told":
            return answers.get(sites.get(tie[1:]))
        if tie[0] == "ask":
            values = [self.value(part, numbers, answers, sites) for part in tie[2]]
            return None if None in values else self.functions[tie[1]](tuple(values), 0)
        row = self.row(tie[1], self.value(tie[3], numbers, answers, sites))
        return None if row is None else row[self.plan.schema.columns(tie[1]).index(tie[2])]

    def row(self, table, value):
        """Return the row of a table with this key, None if there is none."""
        at = self.plan.schema.columns(table).index(self.plan.schema.key(table))
        for row in self.contents.rows(table):
            if row[at] == value:
                return row
        return None

    def has_values(self, claim, numbers, answers, sites):
        ties = claim[2:] if claim[0] == "had" else claim[1:]
        return None not in [self.value(tie, numbers, answers, sites) for tie in ties]

    def is_true(self, claim, numbers, answers, sites):
        if not self.has_values(claim, numbers, answers, sites):
            return False
        if claim[0] == "had":
            return self.row(claim[1], self.value(claim[2], numbers, answers, sites)) is not None
        first, second = [self.value(tie, numbers, answers, sites) for tie in claim[1:]]
        return (first == second) is (claim[0] == "same")


def stream_of(schema, function):
    """Return the stream of a function, None for a fixed or a stable one."""
    return {"changing": function, "effect": ""}.get(schema.kind(function))
