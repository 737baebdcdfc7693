"""Other names whose order is the same make no difference but in the names."""

import unittest

from plancalls.alike import claims, compare, pairs
from plancalls.answers import Answers, keeps
from plancalls.best import best, bests, papers, undominated
from plancalls.book import Book
from plancalls.closures import Closure
from plancalls.contents import Contents
from plancalls.counts import bound, settling
from plancalls.desk import Desk
from plancalls.fewer import against, more_case, never_more, put
from plancalls.freest import freest, freest_paper
from plancalls.ground import order_keys
from plancalls.labels import most_bound, refuting, wrong_labels
from plancalls.moves import alike_moves, judged, moved, shortened
from plancalls.notation import read_plan, read_schema, show_item, show_plan, show_schema, show_term
from plancalls.orders import exchanges, how_many, next_items, orders, reordered
from plancalls.parting import differences
from plancalls.plans import Plan
from plancalls.records import record
from plancalls.runs import traced, walk
from plancalls.schemas import Schema
from plancalls.sites import hidden, loose, marks_wanted, sites, streams
from plancalls.statements import asked, is_history, wrong
from plancalls.ties import conditions, inner_ties, loops_in, tie_of
from things import error_of

TABLES = ["cart", "price"]
COLUMNS = ["cost", "item", "sum"]
FUNCTIONS = ["add", "draw", "log", "now"]
STEPS = ["a", "b", "k", "p", "q", "x"]
OTHER = [["tone", "ttwo"], ["abc", "abcd", "abcde"], ["f", "ff", "g", "z"], ["ka", "kb", "kc", "kd", "ke", "kf"]]
# The words of the items, and names that stand for things of several sorts.
SHARED = [["each", "use"], ["call", "each", "same"], ["call", "each", "unlike", "use"],
       ["aa", "call", "each", "same", "unlike", "use"]]


class Shop:
    """A Schema, Contents, functions and a Plan with these names, and what all queries tell of them."""

    def __init__(self, tables, columns, functions, steps):
        (self.cart, self.price), (self.cost, self.item, self.sum) = tables, columns
        self.add, self.draw, self.log, self.now = functions
        self.names = steps
        told = {self.add: (2, "fixed"), self.draw: (1, "changing"), self.log: (1, "effect"), self.now: (0, "stable")}
        self.schema = Schema({self.cart: [self.item, self.sum], self.price: [self.item, self.cost, self.sum]}, told,
                             keys={self.price: self.item}, references=[(self.cart, self.item, self.price)],
                             made=[(self.price, self.sum, self.add, (self.item, self.cost))])
        self.functions = {self.add: lambda arguments, many: sum(arguments), self.draw: Answers(rest=3, step=2),
                          self.log: Answers.always(6), self.now: Answers(rest=8)}
        self.plan = self.planned()

    def planned(self):
        a, b, k, p, q, x = self.names
        kept = [("each", k, self.cart), ("call", a, self.draw, ((k, self.sum),))]
        items = [("each", p, self.price), ("call", b, self.log, ((p, self.cost),)), ("use",),
                 ("same", (k, self.item), (p, self.item)), ("call", q, self.add, (a, b)), ("call", x, self.now, ())]
        return Plan(self.schema, items, [q, (k, self.sum), x], marks=[p, k], kept=kept)

    def contents(self, cart, price):
        return Contents(self.schema, {self.cart: cart, self.price: price})

    def all_told(self):
        """Return what everything tells of the shop."""
        plan, contents = self.plan, self.contents([(1, 5), (2, 4), (1, 5)], [(2, 3, 5), (1, 7, 8)])
        one, other = record(plan, contents, self.functions), record(plan.with_marks([]), contents, self.functions)
        places = range(9)
        told = [plan.steps(), plan.loops(), plan.answers(), plan.marks(), plan.shown(),
                [(plan.ahead(place), plan.open_at(place)) for place in places],
                [(plan.table_of(loop), plan.place_of(loop)) for loop in plan.loops()],
                [(plan.function(answer), plan.place_of(answer)) for answer in plan.answers()]]
        told += [list(walk(plan, contents, self.functions)), traced(plan, contents, self.functions), one.rows(),
                 one.calls(self.draw), one.effects(), [one.counted(name) for name in self.schema.functions()],
                 [one.counted_at(answer) for answer in plan.answers()], one.parts(other)]
        faults = [([], []), ([(1, 1)], [(2, 2, 4)]), ([], [(1, 1, 2), (1, 1, 2)]), ([], [(1, 1, 2), (2, 1, 2)])]
        told.append([keeps(self.schema, self.contents(*rows), self.functions) for rows in faults])
        errors = [lambda: one.counted("none"), lambda: one.counted_at("none"), lambda: plan.place_of("none"),
                  lambda: keeps(self.schema, contents, {}), lambda: one.calls(self.add),
                  lambda: plan.with_items(plan.main_items()[1:]), lambda: plan.with_items([("use",)]),
                  lambda: plan.with_marks([self.names[1]]), lambda: plan.table_of(self.names[0]),
                  lambda: plan.function(self.names[3])]
        return told + [error_of(call) for call in errors]

    def conditions_told(self):
        """Return what is told of the conditions at each place, but for what may be told in several ways."""
        plan, sizes = self.plan, {self.cart: 3, self.price: 4}
        more = [("same", ("look", self.price, self.sum, ("cell", self.names[3], self.item)), ("told", self.draw, 0))]
        told = [[conditions(plan, place), Closure(plan, place).classes(), order_keys(plan, place),
                 settling(plan, place)] for place in range(9)]
        told.append([tie_of(plan, 8, answer) for answer in plan.answers()])
        told += [[inner_ties(tie), loops_in(tie)] for tie in told[-1]]
        told += [Closure(plan, 8, more=more).classes(), [bound(plan, answer, sizes) for answer in plan.answers()]]
        return told + [error_of(lambda: bound(plan, "none", sizes))]

    def compared(self):
        """Return what is told of plans side by side, but for what may be told in several ways."""
        a, b, k, p, q, x = self.names
        items = [("each", k, self.cart), ("call", a, self.add, ((k, self.sum), 1)), ("unlike", a, 0),
                 ("call", b, self.log, (a,)), ("each", p, self.price), ("same", (k, self.item), (p, self.item)),
                 ("call", q, self.now, ()), ("call", x, self.draw, ((p, self.cost),))]
        plan = Plan(self.schema, items, [a, (p, self.sum)], marks=[k])
        others = [plan, plan.with_items([items[at] for at in [0, 4, 5, 1, 2, 3, 6, 7]]), plan.with_shown([a]),
                  plan.with_items([items[at] for at in [0, 1, 2, 4, 5, 3, 6, 7]]),
                  plan.with_items([items[at] for at in [0, 6, 1, 2, 3, 4, 5, 7]]),
                  plan.with_marks([k, p]), plan.with_items(items[:2] + items[3:])]
        told = [sites(self.plan), streams(plan), loose(self.plan), hidden(plan.with_marks([])), marks_wanted(plan)]
        told += [[compare(plan, other), pairs(plan, other), freest(plan, other)] for other in others]
        told.append([[assignment for assignment, _ in freest_paper(plan, other)[1]] for other in others])
        contents = self.contents([(1, 5), (2, 4)], [(1, 3, 4), (2, 7, 9)])
        told += [differences(plan, other, contents, self.functions) for other in others]
        errors = [lambda: compare(plan, self.plan), lambda: compare(plan, plan.with_marks([])),
                  lambda: claims(plan, plan, self.now, 0), lambda: claims(plan, plan, self.draw, 1)]
        return told + [error_of(call) for call in errors]

    def ordered(self):
        """Return what is told of orders and moves, and of plans that run calls more often or less."""
        a, b, k, p, q, x = self.names
        items = [("each", k, self.cart), ("call", a, self.now, ()), ("unlike", (k, self.sum), 0),
                 ("call", b, self.log, ((k, self.sum),)), ("each", p, self.price),
                 ("same", (k, self.item), (p, self.item)),
                 ("call", q, self.add, ((p, self.item), (p, self.cost))), ("call", x, self.now, ())]
        plan = Plan(self.schema, items, [a, (p, self.sum), q], marks=[k])
        found = list(orders(plan))
        told = [found, how_many(plan), next_items(plan, [0]), exchanges(plan, found[0], found[-1]), alike_moves(plan)]
        told += [self.steps_and_shown(moved(plan, move)) for move in alike_moves(plan)]
        told.append(self.steps_and_shown(shortened(plan)))
        told.append([judged(plan, move)[0] for move in alike_moves(plan) + [("drop", 2), ("term", 3, 0, 0)]])
        less = plan.with_shown([a]).with_items([*items[:4], ("call", q, self.add, ((k, self.item), (k, self.sum)))])
        plans = [reordered(less, order) for order in orders(less)][::3]
        told += [undominated(plans), best(plans), papers(plans), bests(less)]
        told += [[against(plans[0], other) for other in plans], [put(plans[-1], less, name) for name in (a, b, q)]]
        told.append([[never_more(one, less, name) for name in less.answers()] for one in plans])
        told.append(more_case(plan, plan.with_items(items[:7]), x)[0].rows(self.cart))
        told.append(error_of(lambda: bests(plan, most=1000)))
        twice = Plan(self.schema, [items[0], ("each", p, self.cart), items[1]], marks=[k, p])
        errors = [lambda: never_more(twice, twice, a), lambda: never_more(plan, plan, "none"),
                  lambda: against(plan, plan.with_items(items[:3] + items[4:])),
                  lambda: reordered(plan, [7, 6, 5, 4, 3, 2, 1, 0]), lambda: how_many(plan.with_marks([]))]
        return told + [error_of(call) for call in errors]

    def kept_and_written(self):
        """Return what is told of answers that are kept, and what is written of the plan: texts as lists of words."""
        a, b, k, p, q, x = self.names
        history = [(0, self.add, (1, 2), 3), (0, self.now, (), 4), (1, self.now, (), 5), (1, self.draw, (1,), 6),
                   (1, self.draw, (1,), 7)]
        keepings = {self.add: "ever", self.now: "ever", self.draw: "statement", self.log: "statement"}
        told = [is_history(self.schema, history), asked(self.schema, keepings, history), wrong(self.schema, keepings),
                wrong(self.schema, {self.now: "ever"}), list(most_bound(history).items()),
                refuting(history, self.now, "fixed"), wrong_labels(self.schema.with_kinds({self.draw: "stable"}),
                                                                   history)]
        plan, schema = show_plan(self.plan), show_schema(self.schema)
        told += [split(plan), split(schema), split(show_item(self.plan.steps()[1])), split(show_term((k, self.sum)))]
        told += [read_plan(self.schema, plan) == self.plan, read_schema(schema) == self.schema]
        book, desk = Book(self.schema), Desk(self.schema)
        for line in [f"put 0 each {k} {self.cart}", f"put 1 call {a} {self.now}", f"mark {k}",
                     f"show {a} {k}.{self.sum}",
                     f"kind {self.now} effect", "keep 1", "plan", "schema", "back", "back", "again", "log", "plain",
                     "orders"]:
            told.append(split(desk.execute(line)))
        book.do(("put", 0, ("each", k, self.cart)))
        told += [book.log(), book.plan().steps()]
        errors = [lambda: book.do(("kind", self.add, "stable")), lambda: book.do(("mark", (a, k))),
                  lambda: desk.execute("kind none fixed"), lambda: desk.execute(f"put 0 each {k} {self.price}")]
        return told + [error_of(call) for call in errors]

    def steps_and_shown(self, plan):
        return [plan.steps(), plan.shown(), plan.marks()]


def split(text):
    """Return the lines of a text as lists of words, loops and columns apart."""
    return [line.replace(".", " . ").split(" ") for line in text.split("\n")]


def shape(told, names):
    """Return what was told with the number of each name, of whatever sort it is, in its place."""
    if isinstance(told, (list, tuple)):
        return [shape(part, names) for part in told]
    return names.get(told, told) if isinstance(told, str) else told


class Names(unittest.TestCase):
    def setUp(self):
        self.sorts = [TABLES, COLUMNS, FUNCTIONS, STEPS]
        self.told = Shop(*self.sorts).all_told()

    def test_other_names(self):
        one, other = [{name: at for at, name in enumerate(name for names in sorts for name in names)}
                      for sorts in (self.sorts, OTHER)]
        self.assertEqual([15, 15], [len(one), len(other)])
        self.assertEqual(shape(self.told, one), shape(Shop(*OTHER).all_told(), other))

    def test_other_names_in_conditions(self):
        one, other = [{name: at for at, name in enumerate(name for names in sorts for name in names)}
                      for sorts in (self.sorts, OTHER)]
        told, others = [Shop(*sorts).conditions_told() for sorts in (self.sorts, OTHER)]
        self.assertEqual(shape(told, one), shape(others, other))

    def test_other_names_in_plans_side_by_side(self):
        one, other = [{name: at for at, name in enumerate(name for names in sorts for name in names)}
                      for sorts in (self.sorts, OTHER)]
        told, others = [Shop(*sorts).compared() for sorts in (self.sorts, OTHER)]
        self.assertEqual(shape(told, one), shape(others, other))

    def test_other_names_in_orders_and_moves(self):
        one, other = [{name: at for at, name in enumerate(name for names in sorts for name in names)}
                      for sorts in (self.sorts, OTHER)]
        told, others = [Shop(*sorts).ordered() for sorts in (self.sorts, OTHER)]
        self.assertEqual(shape(told, one), shape(others, other))

    def test_other_names_in_statements_and_texts(self):
        one, other = [{name: at for at, name in enumerate(name for names in sorts for name in names)}
                      for sorts in (self.sorts, OTHER)]
        told, others = [Shop(*sorts).kept_and_written() for sorts in (self.sorts, OTHER)]
        self.assertEqual(shape(told, one), shape(others, other))

    def test_names_that_stand_for_things_of_several_sorts(self):
        told = Shop(*SHARED).all_told()
        one, other = [{name: at for at, name in enumerate(steps)} for steps in (STEPS, SHARED[3])]
        # Loops, answers, marks, and rows: these have the names of loops and answers alone.
        for at in [1, 2, 3, 8, 10]:
            self.assertEqual(shape(self.told[at], one), shape(told[at], other))


if __name__ == "__main__":
    unittest.main()
