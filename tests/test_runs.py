import inspect
import unittest

from plancalls.answers import Answers
from plancalls.contents import Contents
from plancalls.plans import Plan
from plancalls.runs import traced, walk
from plancalls.schemas import Schema
from plainly import PlainRun, cases


def market():
    """Return a Schema with functions of all kinds, two of them changing and two effects."""
    functions = {"fix": (1, "fixed"), "sta": (0, "stable"), "cha": (1, "changing"), "chb": (0, "changing"),
                 "efa": (1, "effect"), "efb": (0, "effect")}
    return Schema({"cart": ["item", "many"], "price": ["item", "cost"], "none": ["x"]}, functions,
                  keys={"price": "item"}, references=[("cart", "item", "price")])


def stock(**changed):
    told = {"cart": [(7, 2), (8, 1), (7, 5)], "price": [(7, 100), (8, 50)]}
    told.update(changed)
    return Contents(market(), told)


def plan_of(items, shown=(), **more):
    return Plan(market(), items, shown, **more)


def seen(arguments, many):
    """Answer with all that was asked: the arguments in thousands, and many."""
    return sum(arguments) * 1000 + many


EACH = {name: seen for name in market().functions()}
C, P = ("each", "c", "cart"), ("each", "p", "price")
ON = ("same", ("c", "item"), ("p", "item"))


def rows_of(items, shown=(), **more):
    """Return the rows of a plan with these items on the stock."""
    return list(walk(plan_of(items, shown, **more), stock(), EACH))


def calls_of(items, **more):
    """Return the calls of a plan with these items on the stock."""
    return traced(plan_of(items, **more), stock(), EACH)


class Noting:
    """A function that keeps what it was asked."""

    def __init__(self, asked, name):
        self.asked, self.name = asked, name

    def __call__(self, arguments, many):
        self.asked.append((self.name, arguments, many))
        return seen(arguments, many)


def noting():
    """Return functions, and the list in which they keep what they are asked."""
    asked = []
    return {name: Noting(asked, name) for name in market().functions()}, asked


class Rows(unittest.TestCase):
    def test_no_items(self):
        self.assertEqual([((), ())], rows_of([]))
        self.assertEqual([((), (4, -1, 4))], rows_of([], [4, -1, 4]))

    def test_one_loop(self):
        self.assertEqual([((), (2, 7)), ((), (1, 8)), ((), (5, 7))], rows_of([C], [("c", "many"), ("c", "item")]))
        self.assertEqual([((("c", 0),), ()), ((("c", 1),), ()), ((("c", 2),), ())], rows_of([C], marks=["c"]))

    def test_an_empty_table(self):
        for items in [[("each", "n", "none")], [C, ("each", "n", "none")], [("each", "n", "none"), C],
                      [C, ("each", "n", "none"), P]]:
            self.assertEqual([], rows_of(items, marks=["n"]))
        self.assertEqual([], rows_of([("use",)], kept=[("each", "n", "none")]))

    def test_loops_in_loops(self):
        expected = [((("c", i), ("p", j)), ()) for i in range(3) for j in range(2)]
        self.assertEqual(expected, rows_of([C, P], marks=["p", "c"]))
        turned = [((("c", i), ("p", j)), ()) for j in range(2) for i in range(3)]
        self.assertEqual(turned, rows_of([P, C], marks=["c", "p"]))

    def test_loops_over_one_table(self):
        rows = rows_of([C, ("each", "a", "cart")], [("c", "many"), ("a", "many")], marks=["a"])
        self.assertEqual([((("a", j),), (x, y)) for x in (2, 1, 5) for j, y in enumerate((2, 1, 5))], rows)

    def test_equal_rows(self):
        plan = plan_of([C, P], [("c", "many"), ("p", "cost")], marks=["c"])
        rows = list(walk(plan, stock(cart=[(7, 2), (7, 2)], price=[(7, 1), (7, 1)]), EACH))
        self.assertEqual([((("c", at),), (2, 1)) for at in (0, 0, 1, 1)], rows)

    def test_comparisons(self):
        both = [("c", "many"), ("p", "cost")]
        self.assertEqual([(2, 100), (1, 50), (5, 100)], [values for _, values in rows_of([C, P, ON], both)])
        unlike = ("unlike", *ON[1:])
        self.assertEqual([(2, 50), (1, 100), (5, 50)], [values for _, values in rows_of([C, P, unlike], both)])
        for same, rows in [(("same", 1, 1), 3), (("same", 1, 2), 0), (("unlike", 1, 1), 0), (("unlike", 1, 2), 3)]:
            self.assertEqual([rows, rows], [len(rows_of([same, C])), len(rows_of([C, same]))])

    def test_a_comparison_ends_a_row_in_the_middle_of_several_loops(self):
        items = [C, ("unlike", ("c", "item"), 8), P, ("same", ("p", "cost"), 50), ("each", "a", "cart"),
                 ("unlike", ("a", "many"), ("c", "many"))]
        expected = [((("a", 1), ("c", 0), ("p", 1)), ()), ((("a", 2), ("c", 0), ("p", 1)), ()),
                    ((("a", 0), ("c", 2), ("p", 1)), ()), ((("a", 1), ("c", 2), ("p", 1)), ())]
        self.assertEqual(expected, rows_of(items, marks=["c", "a", "p"]))

    def test_contents_need_not_keep_the_schema(self):
        plan = plan_of([C, P, ON], [("c", "many"), ("p", "cost")])
        contents = stock(cart=[(7, 1), (9, 2)], price=[(7, 3), (7, 4)])
        self.assertEqual([((), (1, 3)), ((), (1, 4))], list(walk(plan, contents, EACH)))

    def test_answers_are_values(self):
        items = [C, ("call", "t", "fix", (("c", "item"),)), ("same", "t", 7000), ("call", "u", "cha", ("t",))]
        self.assertEqual([((), (7000, 7000000)), ((), (7000, 7000001))], rows_of(items, ["t", "u"]))

    def test_made_columns_are_read_as_they_stand(self):
        schema = Schema({"a": ["x", "y"]}, {"fix": (1, "fixed")}, made=[("a", "y", "fix", ("x",))])
        contents = Contents(schema, {"a": [(1, 5), (1, 6)]})
        plan = Plan(schema, [("each", "l", "a")], [("l", "y")])
        self.assertEqual([((), (5,)), ((), (6,))], list(walk(plan, contents, {})))
        self.assertEqual([], traced(plan, contents, {}))


class Kept(unittest.TestCase):
    KEPT = [C, ("unlike", ("c", "item"), 8), ("call", "d", "chb", ())]

    def test_use_in_several_places(self):
        shown = [("c", "many"), "d"]
        self.assertEqual([((), (2, 0)), ((), (5, 1))], rows_of([("use",)], shown, kept=self.KEPT))
        self.assertEqual([((("p", j),), values) for j in (0, 1) for values in [(2, 0), (5, 1)]],
                         rows_of([P, ("use",)], shown, marks=["p"], kept=self.KEPT))
        self.assertEqual([((("p", j),), values) for values in [(2, 0), (5, 1)] for j in (0, 1)],
                         rows_of([("use",), P], shown, marks=["p"], kept=self.KEPT))
        self.assertEqual([((("c", i), ("p", 0)), ()) for i in (0, 2)],
                         rows_of([P, ("use",), ON], marks=["p", "c"], kept=self.KEPT))

    def test_kept_items_run_once(self):
        calls = calls_of([P, ("each", "q", "price"), ("use",), ("call", "e", "chb", ())], kept=self.KEPT)
        self.assertEqual([("d", "chb", (), 0, 0), ("d", "chb", (), 1, 1)], calls[:2])
        self.assertEqual([("e", "chb", (), many, many) for many in range(2, 10)], calls[2:])

    def test_kept_items_run_first_even_if_nothing_uses_their_rows(self):
        for items in [[("each", "n", "none"), ("use",)], [("same", 1, 2), ("use",)]]:
            self.assertEqual([("d", "chb", (), 0, 0), ("d", "chb", (), 1, 1)], calls_of(items, kept=self.KEPT))
            self.assertEqual([], rows_of(items, kept=self.KEPT))

    def test_calls_ahead_of_use_come_behind_the_kept_items(self):
        calls = calls_of([("call", "e", "chb", ()), ("use",)], kept=self.KEPT)
        self.assertEqual([("d", 0), ("d", 1), ("e", 2)], [(call[0], call[3]) for call in calls])

    def test_kept_rows_without_loops(self):
        self.assertEqual([((), ()), ((), ()), ((), ())], rows_of([C, ("use",)], kept=[("same", 1, 1)]))
        self.assertEqual([], rows_of([C, ("use",)], kept=[("same", 1, 2)]))


class Many(unittest.TestCase):
    def many_of(self, items, **more):
        return [(call[0], call[3]) for call in calls_of(items, **more)]

    def test_fixed_and_stable_functions(self):
        items = [C, ("call", "a", "fix", (1,)), ("call", "b", "sta", ()), ("call", "d", "fix", (1,))]
        self.assertEqual([("a", 0), ("b", 0), ("d", 0)] * 3, self.many_of(items))

    def test_changing_functions_count_themselves_each_alone(self):
        items = [C, ("call", "a", "cha", (1,)), ("call", "b", "chb", ()), ("call", "d", "cha", (2,))]
        self.assertEqual([("a", 0), ("b", 0), ("d", 1), ("a", 2), ("b", 1), ("d", 3), ("a", 4), ("b", 2), ("d", 5)],
                         self.many_of(items))

    def test_effect_functions_count_all_together(self):
        items = [C, ("call", "a", "efa", (1,)), ("call", "b", "efb", ()), ("call", "d", "efa", (2,))]
        self.assertEqual([(answer, at) for at, answer in enumerate("abd" * 3)], self.many_of(items))

    def test_all_kinds_among_kept_and_main_items(self):
        kept = [("call", "a", "efa", (0,)), ("call", "b", "cha", (0,)), ("call", "d", "fix", (0,)), P]
        items = [("call", "e", "sta", ()), ("call", "f", "cha", (0,)), ("use",), ("call", "g", "efb", ()),
                 ("call", "h", "chb", ()), ("call", "i", "cha", (0,))]
        self.assertEqual([("a", 0), ("b", 0), ("d", 0), ("e", 0), ("f", 1), ("g", 1), ("h", 0), ("i", 2), ("g", 2),
                          ("h", 1), ("i", 3)], self.many_of(items, kept=kept))

    def test_each_run_counts_anew(self):
        plan = plan_of([C, ("call", "a", "cha", (1,))], ["a"])
        once = list(walk(plan, stock(), EACH))
        self.assertEqual([((), (1000,)), ((), (1001,)), ((), (1002,))], once)
        self.assertEqual(once, list(walk(plan, stock(), EACH)))

    def test_the_kinds_of_the_plan_count(self):
        plan = plan_of([C, ("call", "a", "cha", (1,)), ("call", "b", "efb", ())])
        other = plan.with_schema(market().with_kinds({"cha": "fixed", "efb": "changing"}))
        contents = Contents(other.schema, {"cart": stock().rows("cart")})
        self.assertEqual([("a", 0), ("b", 0), ("a", 0), ("b", 1), ("a", 0), ("b", 2)],
                         [(call[0], call[3]) for call in traced(other, contents, EACH)])


class Marks(unittest.TestCase):
    ITEMS = [P, ("use",), ("each", "a", "cart")]

    def test_none_some_and_all(self):
        numbers = {"a": [0, 1, 2] * 4, "c": ([0] * 3 + [1] * 3) * 2, "p": [0] * 6 + [1] * 6}
        kept = [("each", "c", "price")]
        for marks in [[], ["c"], ["p"], ["a"], ["p", "a"], ["c", "a"], ["p", "c"], ["p", "c", "a"]]:
            expected = [tuple((loop, numbers[loop][at]) for loop in sorted(marks)) for at in range(12)]
            rows = rows_of(self.ITEMS, marks=marks, kept=kept)
            self.assertEqual(expected, [row[0] for row in rows])

    def test_marks_change_nothing_else(self):
        for marks in [[], ["p"], ["c", "p", "a"]]:
            plan = plan_of([*self.ITEMS, ("call", "d", "chb", ())], ["d", ("a", "many")], marks=marks, kept=[C])
            bare = plan.with_marks([])
            values = [[row[1] for row in walk(one, stock(), EACH)] for one in (bare, plan)]
            self.assertEqual(values[0], values[1])
            self.assertEqual(traced(bare, stock(), EACH), traced(plan, stock(), EACH))


class Lazy(unittest.TestCase):
    PLAN = [("call", "a", "chb", ()), C, ("call", "b", "cha", (("c", "item"),)), ("unlike", ("c", "item"), 8),
            ("call", "d", "efb", ())]

    def test_it_is_a_generator(self):
        self.assertTrue(inspect.isgeneratorfunction(walk))
        self.assertTrue(inspect.isgenerator(walk(plan_of([]), stock(), EACH)))

    def test_what_has_been_called_up_to_each_row(self):
        functions, asked = noting()
        walking = walk(plan_of(self.PLAN, ["d"]), stock(), functions)
        self.assertEqual([], asked)
        self.assertEqual(((), (0,)), next(walking))
        first = [("chb", (), 0), ("cha", (7,), 0), ("efb", (), 0)]
        self.assertEqual(first, asked)
        self.assertEqual(((), (1,)), next(walking))
        second = [*first, ("cha", (8,), 1), ("cha", (7,), 2), ("efb", (), 1)]
        self.assertEqual(second, asked)
        self.assertEqual([], list(walking))
        self.assertEqual(second, asked)

    def test_behind_the_last_row_the_run_goes_on_to_its_end(self):
        functions, asked = noting()
        items = [C, ("call", "a", "cha", (("c", "many"),)), ("same", ("c", "many"), 2)]
        walking = walk(plan_of(items), stock(), functions)
        next(walking)
        self.assertEqual(1, len(asked))
        self.assertIsNone(next(walking, None))
        self.assertEqual([("cha", (2,), 0), ("cha", (1,), 1), ("cha", (5,), 2)], asked)
        self.assertIsNone(next(walking, None))
        self.assertEqual(3, len(asked))

    def test_kept_items_are_run_when_the_first_row_is_asked_for(self):
        functions, asked = noting()
        walking = walk(plan_of([("use",), ("call", "d", "efb", ())], kept=[C, ("call", "b", "cha", (1,))]), stock(),
                       functions)
        self.assertEqual([], asked)
        next(walking)
        self.assertEqual([("cha", (1,), 0), ("cha", (1,), 1), ("cha", (1,), 2), ("efb", (), 0)], asked)
        next(walking)
        self.assertEqual(("efb", (), 1), asked[-1])
        self.assertEqual(5, len(asked))

    def test_a_walk_that_is_left_early(self):
        functions, asked = noting()
        plan = plan_of(self.PLAN, ["d"])
        walking = walk(plan, stock(), functions)
        next(walking)
        walking.close()
        self.assertEqual(3, len(asked))
        for row in walk(plan, stock(), functions):
            self.assertEqual(((), (0,)), row)
            break
        self.assertEqual(6, len(asked))
        self.assertEqual(2, len(list(walk(plan, stock(), functions))))

    def test_two_walks_side_by_side(self):
        plan, contents = plan_of(self.PLAN, ["a", "b", "d"], marks=["c"], kept=()), stock()
        alone = list(walk(plan, contents, EACH))
        one, other = walk(plan, contents, EACH), walk(plan, contents, EACH)
        self.assertEqual([(row, row) for row in alone], list(zip(one, other)))
        one, other = walk(plan, contents, EACH), walk(plan, contents, EACH)
        first = next(one)
        self.assertEqual(alone, list(other))
        self.assertEqual(alone, [first, *one])

    def test_two_walks_with_kept_rows(self):
        plan = plan_of([P, ("use",)], ["d"], marks=["c", "p"], kept=[C, ("call", "d", "chb", ())])
        one, other = walk(plan, stock(), EACH), walk(plan, stock(), EACH)
        pairs = list(zip(one, other))
        self.assertEqual([[], 6], [[pair for pair in pairs if pair[0] != pair[1]], len(pairs)])

    def test_functions_that_are_changed_while_a_walk_goes_on(self):
        functions = dict(EACH)
        walking = walk(plan_of(self.PLAN, ["d"]), stock(), functions)
        rows = [next(walking)]
        functions.clear()
        self.assertEqual([((), (0,)), ((), (1,))], rows + list(walking))


class Trouble(KeyError):
    """An error of a function of its own."""


class Failing(unittest.TestCase):
    ITEMS = [C, ("call", "a", "cha", (("c", "many"),)), ("call", "b", "efb", ())]

    def failing(self, error):
        def answer(arguments, many):
            if many == 1:
                raise error
            return 4
        return {**EACH, "cha": answer}

    def test_what_a_function_raises_goes_through(self):
        for error in [Trouble("a"), ValueError(1), KeyError(), IndexError(), TypeError(), RuntimeError("b"),
                      ZeroDivisionError(), AttributeError(), LookupError(), KeyboardInterrupt()]:
            with self.subTest(error=error):
                functions = self.failing(error)
                with self.assertRaises(error.__class__) as caught:
                    traced(plan_of(self.ITEMS), stock(), functions)
                self.assertIs(error, caught.exception)
                walking = walk(plan_of(self.ITEMS, ["a", "b"]), stock(), functions)
                self.assertEqual(((), (4, 0)), next(walking))
                with self.assertRaises(error.__class__) as caught:
                    next(walking)
                self.assertIs(error, caught.exception)
                self.assertIsNone(next(walking, None))

    def test_nothing_changes(self):
        functions, contents, plan = self.failing(Trouble()), stock(), plan_of(self.ITEMS)
        for _ in range(2):
            with self.assertRaises(Trouble):
                traced(plan, contents, functions)
        self.assertEqual([stock(), plan_of(self.ITEMS)], [contents, plan])
        self.assertEqual(6, len(traced(plan, contents, EACH)))


class Traced(unittest.TestCase):
    def test_all_calls_in_their_order(self):
        items = [P, ("call", "x", "fix", (("p", "cost"),)), ("use",), ON, ("call", "y", "efa", ("x",))]
        self.assertEqual([("d", "cha", (2,), 0, 2000), ("d", "cha", (1,), 1, 1001), ("d", "cha", (5,), 2, 5002),
                          ("x", "fix", (100,), 0, 100000), ("y", "efa", (100000,), 0, 100000000),
                          ("y", "efa", (100000,), 1, 100000001),
                          ("x", "fix", (50,), 0, 50000), ("y", "efa", (50000,), 2, 50000002)],
                         calls_of(items, kept=[C, ("call", "d", "cha", (("c", "many"),))]))

    def test_what_the_functions_are_asked(self):
        functions, asked = noting()
        items = [C, ("call", "a", "cha", (("c", "many"),)), ("call", "b", "sta", ()), ("call", "d", "fix", ("a",))]
        calls = traced(plan_of(items), stock(), functions)
        self.assertEqual(asked, [call[1:4] for call in calls])
        self.assertEqual({tuple}, {type(arguments) for _, arguments, _ in asked})

    def test_no_calls(self):
        self.assertEqual([], calls_of([C, P]))
        self.assertEqual([], calls_of([("same", 1, 2), ("call", "a", "sta", ())]))

    def test_functions_of_several_sorts(self):
        class Odd:
            def many(self, arguments, many):
                return 9 + many

        functions = {"cha": Answers({((7,), 0): 3}, rest=4), "fix": lambda arguments, many: 5, "chb": Odd().many}
        items = [("call", "a", "cha", (7,)), ("call", "b", "fix", (1,)), ("call", "d", "chb", ()),
                 ("call", "e", "cha", (7,))]
        self.assertEqual([3, 5, 9, 4], [call[4] for call in traced(plan_of(items), stock(), functions)])

    def test_further_keys_do_nothing(self):
        plan = plan_of([("call", "a", "sta", ())], ["a"])
        functions = {"sta": seen, "none": None, "zzz": 3, "cha": "a"}
        self.assertEqual([("a", "sta", (), 0, 0)], traced(plan, stock(), functions))
        self.assertEqual([((), (0,))], list(walk(plan, stock(), functions)))

    def test_equal_schemas_need_not_be_one(self):
        plan, contents = plan_of([C]), Contents(market(), {"cart": [(1, 2)]})
        self.assertEqual([((), ())], list(walk(plan, contents, {})))

    def test_lists_are_new_and_arguments_stay(self):
        plan, contents, functions = plan_of([C, ("call", "a", "chb", ())], ["a"]), stock(), dict(EACH)
        calls = traced(plan, contents, functions)
        calls.clear()
        self.assertEqual(3, len(traced(plan, contents, functions)))
        list(walk(plan, contents, functions))
        self.assertEqual([plan_of([C, ("call", "a", "chb", ())], ["a"]), stock(), EACH], [plan, contents, functions])


class Compared(unittest.TestCase):
    """Many plans, run as plainly as can be."""

    def test_many_plans(self):
        rows = calls = 0
        for plan, contents, functions in cases(1500):
            plain = PlainRun(plan, contents, functions)
            with self.subTest(steps=plan.steps()):
                self.assertEqual(plain.rows, list(walk(plan, contents, functions)))
                self.assertEqual([call[:5] for call in plain.calls], traced(plan, contents, functions))
            rows += len(plain.rows)
            calls += len(plain.calls)
        self.assertGreater(min(rows, calls), 1000)


if __name__ == "__main__":
    unittest.main()
