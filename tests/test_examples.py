"""The lines of the document's examples, in one session."""

import unittest

from plancalls import errors

# Behind [22].
SCHEMAS = '''
>>> from plancalls.kinds import freer
>>> from plancalls.schemas import Schema
>>> shop = Schema({"item": ["id", "price", "net"], "sale": ["item"]}, {"tax": (1, "fixed"), "log": (1, "effect")}, keys={"item": "id"}, references=[("sale", "item", "item")], made=[("item", "net", "tax", ("price",))])
>>> [shop.tables(), shop.columns("item"), shop.key("sale"), shop.targets("sale", "item"), shop.kind("log")]
[['item', 'sale'], ['id', 'price', 'net'], None, ['item'], 'effect']
>>> [freer("changing", "stable"), shop.with_kinds({"log": "fixed"}).as_bound(shop), shop.as_bound(shop.with_kinds({"log": "fixed"}))]
[True, True, False]
>>> shop.with_kinds({"tax": "stable"})
raises NotFixed('tax')
'''

# Behind [31].
ANSWERS = '''
>>> from plancalls.answers import Answers, keeps
>>> from plancalls.contents import Contents
>>> tax = Answers({((100,), 0): 119}, rest=7)
>>> [tax((100,), 0), tax((5,), 3), Answers(step=2)((), 4), Answers.always(1) == Answers(rest=1)]
[119, 7, 8, True]
>>> goods = Contents(shop, {"item": [(1, 100, 119), (2, 5, 7)], "sale": [(2,), (2,)]})
>>> [keeps(shop, goods, {"tax": tax}), keeps(shop, goods.with_rows("sale", [(2,), (3,)]), {"tax": tax})]
[None, ('reference', 'sale', 'item', 'item', 1)]
'''

# Behind [32].
PLANS = '''
>>> from plancalls.plans import Plan
>>> bill = Plan(shop, [("each", "s", "sale"), ("each", "i", "item"), ("same", ("s", "item"), ("i", "id")), ("call", "done", "log", (("i", "net"),))], [("i", "price"), "done"], marks=["s"])
>>> [bill.loops(), bill.open_at(1), bill.function("done"), bill.place_of("i"), len(bill.ahead(4))]
[['s', 'i'], ['s'], 'log', 1, 4]
>>> Plan(shop, [("each", "s", "sale"), ("same", ("s", "item"), "done")])
raises BadItem(1)
'''

# Behind [41].
RECORDS = '''
>>> from plancalls.records import record
>>> from plancalls.runs import walk
>>> tables = {"cart": ["item", "many"], "price": ["item", "cost"]}
>>> functions = {"tax": (1, "fixed"), "draw": (0, "changing")}
>>> market = Schema(tables, functions, keys={"price": "item"}, references=[("cart", "item", "price")])
>>> items = [("each", "c", "cart"), ("each", "p", "price"), ("same", ("c", "item"), ("p", "item")), ("call", "t", "tax", (("p", "cost"),))]
>>> plan = Plan(market, items, [("c", "many"), "t"], marks=["c"])
>>> stock = Contents(market, {"cart": [(7, 2), (8, 1), (7, 5)], "price": [(7, 100), (8, 50)]})
>>> told = {"tax": lambda arguments, many: arguments[0] // 10, "draw": lambda arguments, many: many}
>>> list(walk(plan, stock, told))
[((('c', 0),), (2, 10)), ((('c', 1),), (1, 5)), ((('c', 2),), (5, 10))]
>>> [record(plan, stock, told).counted("tax"), record(plan, stock, told).counted_at("t"), record(plan, stock, told).calls("draw")]
[3, 3, []]
'''

# Behind [42].
COUNTS = '''
>>> from plancalls.counts import bound, settling
>>> [settling(plan, 3), bound(plan, "t", {"cart": 10 ** 30, "price": 5})]
[[('c',)], 1000000000000000000000000000000]
'''

# Behind [53].
CLOSURES = '''
>>> from plancalls.schemas import Schema
>>> from plancalls.plans import Plan
>>> from plancalls.closures import Closure
>>> from plancalls.ground import order_keys
>>> schema = Schema({"orders": ["who", "sum"], "people": ["id", "age"]}, {"old": (1, "fixed"), "log": (1, "effect")}, keys={"people": "id"}, references=[("orders", "who", "people")])
>>> items = [("each", "o", "orders"), ("each", "p", "people"), ("same", ("o", "who"), ("p", "id")), ("call", "x", "old", (("p", "age"),)), ("unlike", "x", 0)]
>>> plan = Plan(schema, items, [("o", "sum")], marks=["o"])
>>> closure = Closure(plan, 5)
>>> [closure.same(("cell", "o", "who"), ("cell", "p", "id")), closure.had("people", ("cell", "o", "who"))]
[True, True]
>>> order_keys(plan, 5)
[('loop', 'o')]
'''

# Behind [61].
ALIKE = '''
>>> from plancalls.alike import are_alike, compare
>>> items = [("each", "o", "orders"), ("call", "x", "old", (("o", "who"),))]
>>> one = Plan(schema, items, ["x"], marks=["o"])
>>> other = Plan(schema, [("each", "o", "orders"), ("each", "p", "people"), ("same", ("p", "id"), ("o", "who")), ("call", "x", "old", (("p", "id"),))], ["x"], marks=["o"])
>>> [are_alike(one, other), compare(one, plan)]
[True, ('.', 0, 'conditions')]
'''

# Behind [72].
FREEST = '''
>>> from plancalls.freest import freest, stop
>>> from plancalls.parting import differences, is_case, parting_case
>>> early = Plan(schema, [("each", "o", "orders"), ("call", "x", "old", (("o", "who"),)), ("unlike", ("o", "sum"), 0)], ["x"], marks=["o"])
>>> late = Plan(schema, [("each", "o", "orders"), ("unlike", ("o", "sum"), 0), ("call", "x", "old", (("o", "who"),))], ["x"], marks=["o"])
>>> [freest(one, other), freest(early, late), stop(early, late, (("old", "effect"),))[0]]
[[(('old', 'effect'),)], [(('old', 'stable'),)], 'parted']
>>> [parting_case(one, other), is_case(one, plan, parting_case(one, plan))]
[None, True]
'''

# Behind [81].
MOVES = '''
>>> from plancalls.moves import alike_moves, judged, shortened
>>> from plancalls.orders import exchanges, how_many, order_at, orders
>>> [list(orders(early)), exchanges(early, [0, 1, 2], [0, 2, 1]), how_many(early)]
[[[0, 1, 2], [0, 2, 1]], [1], 2]
>>> [alike_moves(early), judged(early, ("swap", 1)) == ("alike", late), judged(early, ("drop", 2))[0]]
[[('swap', 1)], True, 'parted']
>>> twice = Plan(schema, [("each", "o", "orders"), ("call", "x", "old", (("o", "who"),)), ("call", "y", "old", (("o", "who"),))], ["x", "y"], marks=["o"])
>>> shortened(twice) == Plan(schema, [("each", "o", "orders"), ("call", "x", "old", (("o", "who"),))], ["x", "x"], marks=["o"])
True
'''

# Behind [92].
FEWER = '''
>>> from plancalls.fewer import against, never_more, put
>>> early = Plan(market, [("each", "c", "cart"), ("call", "t", "tax", (("c", "many"),)), ("same", ("c", "item"), 7)], ["t"], marks=["c"])
>>> late = Plan(market, [("each", "c", "cart"), ("same", ("c", "item"), 7), ("call", "t", "tax", (("c", "many"),))], ["t"], marks=["c"])
>>> [never_more(late, early, "t"), never_more(early, late, "t"), against(late, early), put(late, early, "t")]
[True, False, 'fewer', [('c', ('loop', 'c'))]]
'''

# Behind [100].
STATEMENTS = '''
>>> from plancalls.statements import told, wrong
>>> told(market, {"draw": "statement"}, [(0, "draw", (), 4), (0, "draw", (), 5), (1, "draw", (), 6)])
[4, 4, 6]
>>> wrong(market, {"tax": "ever", "draw": "statement"})
('draw', [(0, 'draw', (), 0), (0, 'draw', (), 1)])
'''

# Behind [101].
LABELS = '''
>>> from plancalls.labels import most_bound, refuting
>>> uses = [(0, "now", (), 5), (0, "now", (), 5), (1, "now", (), 6), (1, "tax", (3,), 1)]
>>> [most_bound(uses), refuting(uses, "now", "fixed"), refuting(uses, "now", "stable")]
[{'now': 'stable', 'tax': 'fixed'}, (0, 2), None]
'''

# Behind [105].
DESK = '''
>>> from plancalls.desk import Desk
>>> desk = Desk(shop)
>>> [desk.execute("put 0 each s sale"), desk.execute("put 1 each i item"), desk.execute("put 2 same s.item i.id"), desk.execute("show i.price")]
['-', '-', '-', '-']
>>> [desk.execute("mark s"), desk.execute("plan"), desk.execute("back"), desk.execute("take 0")]
raises BadItem(1)
>>> desk.execute("plan")
'each s sale\\neach i item\\nsame s.item i.id\\nshow i.price\\n'
'''


def result_of(line, session):
    """Return what the document writes behind a line: nothing, a value, or an error."""
    try:
        value = eval(line, session)
    except SyntaxError:
        exec(line, session)
        return ""
    except errors.PlanError as error:
        fields = ", ".join([repr(field) for field in vars(error).values()])
        return f"raises {error.__class__.__name__}({fields})"
    return repr(value)


class Examples(unittest.TestCase):
    def run_examples(self, text, session):
        parts = text.strip().removeprefix(">>> ").split("\n>>> ")
        for part in parts:
            line, _, expected = part.partition("\n")
            with self.subTest(line):
                self.assertEqual(expected, result_of(line, session))
        return len(parts)

    def test_the_examples(self):
        session = {}
        for many, text in [(6, SCHEMAS), (6, ANSWERS), (4, PLANS), (11, RECORDS), (2, COUNTS), (10, CLOSURES),
                           (5, ALIKE), (6, FREEST), (6, MOVES), (4, FEWER), (3, STATEMENTS), (3, LABELS), (5, DESK)]:
            self.assertEqual(many, self.run_examples(text, session))


if __name__ == "__main__":
    unittest.main()
