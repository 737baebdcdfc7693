"""Rows, puttings and never more often told once more, by the words of [90] and by closures alone."""

from plancalls.closures import Closure
from plancalls.ground import is_ground_by
from plancalls.sites import sites
from plancalls.ties import conditions

# So far references are followed: further ones lead to tables of which two rows were found before.
DEPTH = 6


class Call:
    """What a plan has at the call with an answer."""

    def __init__(self, plan, answer):
        self.plan, self.schema = plan, plan.schema
        self.live = answer in plan.answers()
        if self.live:
            self.place = plan.place_of(answer)
            self.closure = Closure(plan, self.place)
            self.live = not self.closure.clashes()
            self.loops = plan.open_at(self.place)

    def row(self, loop):
        table = self.plan.table_of(loop)
        key = self.schema.key(table)
        return ("loop", loop) if key is None else ("row", table, ("cell", loop, key))

    def column(self, row, column):
        return ("cell", row[1], column) if row[0] == "loop" else ("look", row[1], column, row[2])

    def table(self, row):
        return self.plan.table_of(row[1]) if row[0] == "loop" else row[1]

    def are_one(self, one, other):
        if one[0] == "loop" or other[0] == "loop":
            return one == other
        return one[1] == other[1] and self.closure.same(one[2], other[2])

    def different(self, rows):
        found = []
        for row in rows:
            if not any(self.are_one(row, other) for other in found):
                found.append(row)
        return found

    def led_to(self, row):
        """Return the rows to which the references of a row lead."""
        table = self.table(row)
        found = []
        for _, column, target in [item for item in self.schema.references() if item[0] == table]:
            key = row[0] == "row" and column == self.schema.key(table)
            found.append(("row", target, row[2] if key else self.column(row, column)))
        return found

    def rows(self):
        """Return the different rows that the plan has, of each table at least two if there are so many."""
        ties = [tie for ties in self.closure.classes() for tie in ties]
        found = [self.row(loop) for loop in self.loops]
        found += [("row", table, tie) for tie in ties for table in self.schema.key_columns()
                  if self.closure.had(table, tie)]
        found = last = self.different(found)
        for _ in range(DEPTH):
            led = self.different([other for row in last for other in self.led_to(row)])
            last = []
            for row in led:
                # Some rows of a table tell as much as more of them.
                many = len([other for other in found + last if self.table(other) == self.table(row)])
                if many < 6 and not any(self.are_one(row, other) for other in found):
                    last.append(row)
            found = found + last
        return found

    def rows_of(self, table):
        return [row for row in self.rows() if self.table(row) == table]


def put_tie(one, other, rows, tie):
    """Return a tie of other with rows of one in the place of its loops."""
    if tie[0] == "cell":
        row = rows[tie[1]]
        return ("cell", row[1], tie[2]) if row[0] == "loop" else row[2]
    if tie[0] == "look":
        return (*tie[:3], put_tie(one, other, rows, tie[3]))
    if tie[0] == "ask":
        return (*tie[:2], tuple(put_tie(one, other, rows, part) for part in tie[2]))
    if tie[0] == "told":
        place = [site[2] for site in sites(other.plan) if site[:2] == tie[1:]][0]
        marked = [loop for loop in other.plan.open_at(place) if loop in other.plan.marks()]
        if not all(loop in one.loops and one.are_one(rows[loop], one.row(loop)) for loop in marked):
            return ("told", tie[1], tie[2] + 1000)
    return tie


def is_right(one, other, rows):
    """Return whether a putting, a dict from loops to rows, is right."""
    for word, first, second in conditions(other.plan, other.place):
        claim = (word, put_tie(one, other, rows, first), put_tie(one, other, rows, second))
        if not one.closure.entails(claim):
            return False
    told = list(rows.values())
    for loop in one.loops:
        row = one.row(loop)
        if row in told:
            continue
        if row[0] == "loop" or not is_ground_by(one.plan, one.place, row[2], told):
            return False
    return True


def never(plan, another, answer):
    """Return True, False, or the least table that stands twice."""
    one, other = Call(plan, answer), Call(another, answer)
    if not one.live or not other.live:
        return not one.live
    tables = [another.table_of(loop) for loop in other.loops]
    plain = {}
    for loop, table in zip(other.loops, tables):
        rows = one.different([one.row(mine) for mine in one.loops if plan.table_of(mine) == table])
        plain[loop] = rows or one.rows_of(table)
    if all(len(rows) == 1 for rows in plain.values()):
        if is_right(one, other, {loop: rows[0] for loop, rows in plain.items()}):
            return True
    twice = [table for table in tables if tables.count(table) > 1 or len(one.rows_of(table)) > 1]
    return min(twice) if twice else False
