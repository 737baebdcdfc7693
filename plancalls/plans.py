"""Plans: what is gone through, called, compared and given out, and in which order."""

from plancalls.errors import BadItem, BadMark, BadShown, NoUse, Unknown, Wrong
from plancalls.kinds import is_integer, is_name
from plancalls.schemas import Schema, are_names

USE = ("use",)


class Plan:
    """The main items, kept items, shown terms and marks of a plan over a Schema; it never changes."""

    def __init__(self, schema, items, shown=(), *, marks=(), kept=()):
        refuse_wrong_plan(schema, items, shown, marks, kept)
        self._schema = schema
        self._items = tuple(items)
        self._kept = tuple(kept)
        self._shown = tuple(shown)
        check_steps(schema, self._kept, self._items)
        check_shown(schema, items_ahead(self._kept, self._items, len(self.steps())), self._shown)
        self._loops = loops_of(self.steps())
        self._answers = answers_of(self.steps())
        check_marks(self._loops, marks)
        self._marks = sorted(set(marks))

    @property
    def schema(self):
        """The Schema."""
        return self._schema

    def main_items(self):
        """Return the list of the main items."""
        return list(self._items)

    def kept(self):
        """Return the list of the kept items."""
        return list(self._kept)

    def shown(self):
        """Return the list of the shown terms."""
        return list(self._shown)

    def marks(self):
        """Return the ascending list of the marks, each once."""
        return list(self._marks)

    def steps(self):
        """Return the list of the kept items, then the main ones."""
        return [*self._kept, *self._items]

    def ahead(self, place):
        """Return the list of the items ahead of a place, with all kept items in the place of ("use",)."""
        return items_ahead(self._kept, self._items, place)

    def open_at(self, place):
        """Return the list of the loops that are open at a place, in order."""
        return list(loops_of(self.ahead(place)))

    def loops(self):
        """Return the list of the loops that are open at the end, in order."""
        return self.open_at(len(self.steps()))

    def table_of(self, loop):
        """Return the table of a loop."""
        if loop not in self._loops:
            raise Unknown(loop)
        return self._loops[loop]

    def answers(self):
        """Return the ascending list of the names of all answers."""
        return sorted(self._answers)

    def function(self, answer):
        """Return the function of an answer."""
        if answer not in self._answers:
            raise Unknown(answer)
        return self._answers[answer]

    def place_of(self, name):
        """Return the place of the step of a loop or an answer."""
        for place, item in enumerate(self.steps()):
            if item[0] in ("each", "call") and item[1] == name:
                return place
        raise Unknown(name)

    def with_items(self, items):
        """Return the Plan with other main items."""
        return Plan(self._schema, items, self._shown, marks=self._marks, kept=self._kept)

    def with_shown(self, shown):
        """Return the Plan with other shown terms."""
        return Plan(self._schema, self._items, shown, marks=self._marks, kept=self._kept)

    def with_marks(self, marks):
        """Return the Plan with other marks."""
        return Plan(self._schema, self._items, self._shown, marks=marks, kept=self._kept)

    def with_schema(self, schema):
        """Return the Plan over another Schema."""
        return Plan(schema, self._items, self._shown, marks=self._marks, kept=self._kept)

    def __eq__(self, other):
        if not isinstance(other, Plan) or self._schema != other._schema:
            return False
        if self._items != other._items or self._kept != other._kept:
            return False
        return self._shown == other._shown and self._marks == other._marks


def refuse_wrong_plan(schema, items, shown, marks, kept):
    """Raise Wrong for the first argument of a Plan that is not as described."""
    fit = [isinstance(schema, Schema), is_series(items), is_series(shown)]
    fit.append(is_series(marks) and are_names(marks))
    fit.append(is_series(kept))
    if False in fit:
        raise Wrong(fit.index(False))


def is_series(thing):
    """Return whether thing is a list or a tuple."""
    return isinstance(thing, (list, tuple))


def items_ahead(kept, main, place):
    """Return the list of the items ahead of a place, with all kept items in the place of ("use",)."""
    if place < len(kept):
        return list(kept[:place])
    found = []
    for item in main[:place - len(kept)]:
        if item == USE:
            found.extend(kept)
        else:
            found.append(item)
    return found


def loops_of(items):
    """Return the dict from the loops of items to their tables, in the order of the items."""
    return {item[1]: item[2] for item in items if item[0] == "each"}


def answers_of(items):
    """Return the dict from the answers of items to their functions, in the order of the items."""
    return {item[1]: item[2] for item in items if item[0] == "call"}


def check_steps(schema, kept, main):
    """Raise BadItem for the first step that is no item at its place, NoUse if kept items are not used."""
    for at, item in enumerate(kept + main):
        if not is_item_at(schema, kept, main, at, item):
            raise BadItem(at)
    if kept and USE not in main:
        raise NoUse()


def check_shown(schema, ahead, shown):
    """Raise BadShown for the first shown item that is no term behind all items."""
    for at, thing in enumerate(shown):
        if not is_term(schema, ahead, thing):
            raise BadShown(at)


def check_marks(loops, marks):
    """Raise BadMark for the first mark that is no loop."""
    for name in marks:
        if name not in loops:
            raise BadMark(name)


def is_item_at(schema, kept, main, at, item):
    """Return whether a step is an item at its place; all steps before it are."""
    if not isinstance(item, tuple) or not item or not is_name(item[0]):
        return False
    if item[0] == "use":
        return item == USE and can_use(kept, main, at)
    if item[0] in ("each", "call") and not is_named_anew(item, (kept + main)[:at]):
        return False
    ahead = items_ahead(kept, main, at)
    if item[0] == "each":
        return len(item) == 3 and is_name(item[2]) and item[2] in schema.tables()
    if item[0] == "call":
        return len(item) == 4 and is_call(schema, ahead, item[2], item[3])
    return item[0] in ("same", "unlike") and len(item) == 3 and are_terms(schema, ahead, item[1:])


def can_use(kept, main, at):
    """Return whether ("use",) may stand at a place; all steps before it are items."""
    return len(kept) > 0 and at >= len(kept) and USE not in main[:at - len(kept)]


def is_named_anew(item, before):
    """Return whether an item gives a loop or an answer a name that none of the steps before it gives."""
    if len(item) < 2 or not is_name(item[1]):
        return False
    return item[1] not in loops_of(before) and item[1] not in answers_of(before)


def is_call(schema, ahead, function, terms):
    """Return whether a function of the schema is called with as many terms as it has arguments."""
    if not is_name(function) or function not in schema.functions() or not isinstance(terms, tuple):
        return False
    return len(terms) == schema.arguments(function) and are_terms(schema, ahead, terms)


def are_terms(schema, ahead, things):
    """Return whether each of the things is a term behind these items."""
    return all([is_term(schema, ahead, thing) for thing in things])


def is_term(schema, ahead, thing):
    """Return whether thing is a term behind these items."""
    if is_integer(thing):
        return True
    if is_name(thing):
        return thing in answers_of(ahead)
    if not isinstance(thing, tuple) or len(thing) != 2 or not are_names(thing):
        return False
    loops = loops_of(ahead)
    return thing[0] in loops and thing[1] in schema.columns(loops[thing[0]])
