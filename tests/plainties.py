"""Ties, classes and ground told once more, as plainly as can be, by the words of the definitions."""

from reached import stream_of


class PlainTies:
    """The ties of a plan, its live sites, and its conditions at each place."""

    def __init__(self, plan):
        self.plan, self.schema = plan, plan.schema
        self.answers, self.sites = {}, []
        for place, item in enumerate(plan.steps() + [("call", None, ".", ())]):
            if item[0] == "call":
                self.answers[item[1]] = self.answer(place, item)

    def answer(self, place, item):
        _, name, function, terms = item
        stream = "." if function == "." else stream_of(self.schema, function)
        if stream is None:
            return ("ask", function, tuple(self.tie(term) for term in terms))
        if PlainClasses(self, place, []).clash():
            return ("told", stream, -1)
        index = len([site for site in self.sites if site[0] == stream])
        self.sites.append((stream, index, place))
        return ("told", stream, index)

    def tie(self, term):
        if isinstance(term, str):
            return self.answers[term]
        if isinstance(term, int):
            return ("int", term)
        loop, column = term
        return self.column(self.plan.table_of(loop), loop, column)

    def column(self, table, loop, column):
        key = self.schema.key(table)
        return ("cell", loop, column) if key in (None, column) else ("look", table, column, ("cell", loop, key))

    def conditions(self, place):
        return [(item[0], self.tie(item[1]), self.tie(item[2])) for item in self.plan.ahead(place)
                if item[0] in ("same", "unlike")]

    def sites_ahead(self, place):
        ahead = self.plan.ahead(place)
        steps = self.plan.steps()
        return [site for site in self.sites if site[0] != "." and steps[site[2]] in ahead]

    def order_keys(self, place):
        classes = PlainClasses(self, place, [])
        loops = self.plan.open_at(place)
        keys = []
        for at, loop in enumerate(loops):
            if not self.settled(classes, place, loop, loops[:at]):
                keys.append(self.order_key(loop))
        return keys

    def order_key(self, loop):
        table = self.plan.table_of(loop)
        if self.schema.key(table) is None:
            return ("loop", loop)
        return ("row", table, ("cell", loop, self.schema.key(table)))

    def settled(self, classes, place, loop, loops):
        if loop in loops:
            return True
        row = self.order_key(loop)
        return row[0] == "row" and classes.is_ground(place, row[2], [("loop", other) for other in loops])


class PlainClasses:
    """The classes at a place, with more conditions and more ties; a class is a frozenset."""

    def __init__(self, ties, place, more, added=()):
        self.ties, self.schema, self.place = ties, ties.schema, place
        self.loops = {loop: ties.plan.table_of(loop) for loop in ties.plan.open_at(place)}
        self.conditions = ties.conditions(place) + list(more)
        self.classes = {}
        self.rows = set()
        for _, one, other in self.conditions:
            self.add(one)
            self.add(other)
        for loop, table in self.loops.items():
            if self.schema.key(table) is not None:
                self.add(("cell", loop, self.schema.key(table)))
        for tie in added:
            self.add(tie)
        for word, one, other in self.conditions:
            if word == "same":
                self.join(one, other)
        while self.step():
            pass

    def add(self, tie):
        if tie in self.classes:
            return False
        for part in {"look": tie[3:], "ask": tie[2] if tie[0] == "ask" else ()}.get(tie[0], ()):
            self.add(part)
        self.classes[tie] = frozenset([tie])
        return True

    def join(self, one, other):
        if self.classes[one] == self.classes[other]:
            return False
        both = self.classes[one] | self.classes[other]
        for tie in both:
            self.classes[tie] = both
        return True

    def step(self):
        """Do whatever one of the rules tells, and return whether there was something to do."""
        changed = False
        ties = list(self.classes)
        for one in ties:
            for other in ties:
                if self.alike(one, other) and self.join(one, other):
                    changed = True
        for tie in ties:
            changed = self.lead(tie) or changed
            changed = self.make(tie) or changed
        return changed

    def alike(self, one, other):
        if one[0] != other[0] or one[0] not in ("look", "ask"):
            return False
        if one[0] == "look":
            return one[:3] == other[:3] and self.classes[one[3]] == self.classes[other[3]]
        return one[1] == other[1] and all(self.classes[a] == self.classes[b] for a, b in zip(one[2], other[2]))

    def has(self, table, tie):
        return any((table, other) in self.rows for other in self.classes[tie])

    def lead(self, tie):
        """Note the rows that tables have by a tie."""
        found = set()
        for table in self.schema.tables():
            key = self.schema.key(table)
            if key is None:
                continue
            if tie[0] == "cell" and self.loops[tie[1]] == table and key == tie[2]:
                found.add((table, tie))
            if tie[0] == "cell" and table in self.schema.targets(self.loops[tie[1]], tie[2]):
                found.add((table, tie))
            if tie[0] == "look" and table in self.schema.targets(tie[1], tie[2]) and self.has(tie[1], tie[3]):
                found.add((table, tie))
            for other in self.schema.tables():
                if self.schema.key(other) is not None and self.has(other, tie):
                    if table in self.schema.targets(other, self.schema.key(other)):
                        found.add((table, tie))
        new = found - self.rows
        self.rows |= found
        return bool(new)

    def make(self, tie):
        if tie[0] == "look" and self.has(tie[1], tie[3]) and self.schema.made_of(tie[1], tie[2]):
            function, columns = self.schema.made_of(tie[1], tie[2])
            key = self.schema.key(tie[1])
            parts = tuple(tie[3] if column == key else ("look", tie[1], column, tie[3]) for column in columns)
        elif tie[0] == "cell" and self.schema.made_of(self.loops[tie[1]], tie[2]):
            function, columns = self.schema.made_of(self.loops[tie[1]], tie[2])
            parts = tuple(("cell", tie[1], column) for column in columns)
        else:
            return False
        new = self.add(("ask", function, parts))
        return self.join(tie, ("ask", function, parts)) or new

    def clash(self):
        for one in set(self.classes.values()):
            if len([tie for tie in one if tie[0] == "int"]) > 1:
                return True
        return any(word == "unlike" and self.classes[one] == self.classes[other]
                   for word, one, other in self.conditions)

    def told(self):
        return sorted({tuple(sorted(one)) for one in self.classes.values()})

    def is_ground(self, place, tie, rows):
        """Return whether the class of a tie, which was added, is ground over rows, told as order keys."""
        keys = {site[:2]: self.ties.order_keys(site[2]) for site in self.ties.sites_ahead(place)}
        ground = {self.classes[row[2]] for row in rows if row[0] == "row"}
        many = -1
        while many != len(ground):
            many = len(ground)
            for other in self.classes:
                if self.shows_ground(other, rows, ground, keys):
                    ground.add(self.classes[other])
        return self.classes[tie] in ground

    def shows_ground(self, tie, rows, ground, keys):
        if tie[0] == "int":
            return True
        if tie[0] == "cell":
            return ("loop", tie[1]) in rows
        if tie[0] == "look":
            return self.classes[tie[3]] in ground
        if tie[0] == "ask":
            return all(self.classes[part] in ground for part in tie[2])
        if tie[1:] not in keys:
            return False
        return all(row in rows or (row[0] == "row" and self.classes[row[2]] in ground) for row in keys[tie[1:]])


def entailed(ties, place, more, claim):
    """Return whether the conditions at a place, and more of them, entail a claim."""
    if PlainClasses(ties, place, more).clash():
        return True
    if claim[0] == "unlike":
        return PlainClasses(ties, place, list(more) + [("same", *claim[1:])]).clash()
    classes = PlainClasses(ties, place, more, claim[2:] if claim[0] == "had" else claim[1:])
    if claim[0] == "had":
        return classes.has(claim[1], claim[2])
    return classes.classes[claim[1]] == classes.classes[claim[2]]
