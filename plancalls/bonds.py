"""Bonds: the classes into which conditions put ties, and the rows that tables have by them."""

from plancalls.forms import Forms


class Bonds:
    """Ties in classes, with the loops that are open and the conditions; settle puts together what belongs so."""

    def __init__(self, schema, leads):
        self._schema = schema
        self._leads = leads
        self._tables = {}
        self._forms = Forms()
        self._heads = []
        self._unlike = []
        self._had = {}
        self._joins = 0

    def copied(self):
        """Return Bonds of their own with all that is in these."""
        twin = Bonds(self._schema, self._leads)
        twin._tables = dict(self._tables)
        twin._forms = self._forms.copied()
        twin._heads = list(self._heads)
        twin._unlike = list(self._unlike)
        twin._had = {row: True for row in self._had}
        return twin

    def tables(self):
        """Return the dict from the open loops to their tables, in the order in which they were opened."""
        return dict(self._tables)

    def begin_loop(self, loop, table):
        """Open a loop over a table."""
        self._tables[loop] = table
        key = self._schema.key(table)
        if key is not None:
            self.number(("cell", loop, key))

    def bind(self, word, one, other):
        """Keep a condition."""
        first = self.number(one)
        second = self.number(other)
        if word == "same":
            self._join(first, second)
        else:
            self._unlike.append((first, second))

    def settle(self):
        """Put into classes what belongs together, and find the rows that are had, until nothing more comes."""
        before = None
        while before != (self.many(), self._joins):
            before = (self.many(), self._joins)
            self._join_equal_forms()
            self._find_rows()
            self._put_in_origins()

    def clashes(self):
        """Return whether two integers, or both sides of an unlike, are in one class."""
        heads = [head for number, head in enumerate(self._heads) if self.parts(number)[0] == "int"]
        if len(set(heads)) < len(heads):
            return True
        return any([self._heads[one] == self._heads[other] for one, other in self._unlike])

    def number(self, tie):
        """Return the number of a tie; it is put in, with its inner ties, if it was not there."""
        number = self._forms.number(tie)
        self._put_in_new()
        return number

    def many(self):
        """Return how many ties there are: their numbers are those below this one."""
        return len(self._heads)

    def parts(self, number):
        """Return a tie with numbers in the place of its inner ties."""
        return self._forms.parts(number)

    def ties(self):
        """Return the list of all ties, in the order of their numbers."""
        return self._forms.ties()

    def head(self, number):
        """Return the number of the tie that stands for the class of a tie."""
        return self._heads[number]

    def head_of(self, tie):
        """Return the number that stands for the class of a tie, which is put in if it was not there."""
        return self._heads[self.number(tie)]

    def has_row(self, table, head):
        """Return whether a table has the row whose key is in a class."""
        return (table, head) in self._had

    def rows_had(self):
        """Return the ascending list of the tuples (table, head) of the rows that are had."""
        return sorted(self._had)

    def _number_of(self, parts):
        number = self._forms.number_of(parts)
        self._put_in_new()
        return number

    def _put_in_new(self):
        """Give the ties that were put in a class of their own each."""
        first = len(self._heads)
        self._heads.extend(list(range(first, self._forms.many())))

    def _join(self, one, other):
        """Make one class of those of two ties."""
        kept, left = sorted([self._heads[one], self._heads[other]])
        if kept != left:
            self._heads = [kept if head == left else head for head in self._heads]
            self._joins += 1

    def _join_equal_forms(self):
        """Join the ties of one form and name whose inner ties are in the same classes."""
        seen = {}
        for number in range(self.many()):
            form = self.parts(number)
            if form[0] == "look":
                form = (*form[:3], self._heads[form[3]])
            elif form[0] == "ask":
                form = (*form[:2], tuple([self._heads[part] for part in form[2]]))
            self._join(seen.setdefault(form, number), number)

    def _find_rows(self):
        """Find the rows that are had: those of the open loops, and those to which they lead one after another."""
        self._had = {}
        for number, head in enumerate(self._heads):
            parts = self.parts(number)
            if parts[0] == "cell":
                table = self._tables[parts[1]]
                if self._schema.key(table) == parts[2]:
                    self._find_row(table, head)
                self._find_targets(table, parts[2], head)
        many = -1
        while many != len(self._had):
            many = len(self._had)
            for number, head in enumerate(self._heads):
                parts = self.parts(number)
                if parts[0] == "look" and self.has_row(parts[1], self._heads[parts[3]]):
                    self._find_targets(parts[1], parts[2], head)

    def _find_row(self, table, head):
        """Note that a table has a row, and so do the tables to which its key leads."""
        if (table, head) not in self._had:
            self._had[(table, head)] = True
            self._find_targets(table, self._schema.key(table), head)

    def _find_targets(self, table, column, head):
        """Note that the tables to which a column leads have a row."""
        for target in self._leads.get((table, column), ()):
            self._find_row(target, head)

    def _put_in_origins(self):
        """Join each made column of a row that is there with the answer of its function."""
        for number in range(self.many()):
            parts = self.parts(number)
            if parts[0] == "cell":
                self._put_in_origin(number, self._tables[parts[1]])
            elif parts[0] == "look" and self.has_row(parts[1], self._heads[parts[3]]):
                self._put_in_origin(number, parts[1])

    def _put_in_origin(self, number, table):
        parts = self.parts(number)
        origin = self._schema.made_of(table, parts[2])
        if origin is not None:
            function, columns = origin
            sources = tuple([self._beside(parts, table, column) for column in columns])
            self._join(number, self._number_of(("ask", function, sources)))

    def _beside(self, parts, table, column):
        """Return the number of another column of the row of a cell or a look."""
        if parts[0] == "cell":
            return self._number_of(("cell", parts[1], column))
        if self._schema.key(table) == column:
            return parts[3]
        return self._number_of(("look", table, column, parts[3]))


def leads_of(schema):
    """Return the dict from tuples (table, column) to the tables to which references lead from there."""
    found = {}
    for table, column, target in schema.references():
        found.setdefault((table, column), []).append(target)
    return found


def with_claim(bonds, claim):
    """Return Bonds with the ties of a claim; those of an unlike become equal, as only a clash speaks for it."""
    tried = bonds.copied()
    if claim[0] == "unlike":
        tried.bind("same", claim[1], claim[2])
    else:
        put_in_ties(tried, claim)
    tried.settle()
    return tried


def put_in_ties(bonds, claim):
    """Put the ties of a claim into Bonds."""
    for tie in (claim[2:] if claim[0] == "had" else claim[1:]):
        bonds.number(tie)


def is_entailed(bonds, claim):
    """Return whether settled Bonds entail a claim."""
    return bonds.clashes() or holds(with_claim(bonds, claim), claim)


def are_entailed(bonds, claims):
    """Return whether settled Bonds that do not clash entail each of the claims."""
    tried = bonds.copied()
    for claim in claims:
        put_in_ties(tried, claim)
    tried.settle()
    for claim in claims:
        if not holds(with_claim(tried, claim) if claim[0] == "unlike" else tried, claim):
            return False
    return True


def holds(tried, claim):
    """Return whether a claim is entailed by Bonds that do not clash, to which its ties were put as with_claim does."""
    if claim[0] == "had":
        return tried.has_row(claim[1], tried.head_of(claim[2]))
    if claim[0] == "same":
        return tried.head_of(claim[1]) == tried.head_of(claim[2])
    return tried.clashes()
