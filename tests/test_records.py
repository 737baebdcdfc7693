import unittest

from plancalls.contents import Contents
from plancalls.plans import Plan
from plancalls.records import Record, record
from plancalls.runs import walk
from plancalls.schemas import Schema
from plainly import PlainRun, cases
from things import Equal, EqualityCase, error_of, of_all_sorts


def market(**kinds):
    """Return a Schema with functions of all kinds, two of them changing and two effects."""
    functions = {"fix": (1, "fixed"), "sta": (0, "stable"), "cha": (1, "changing"), "chb": (0, "changing"),
                 "efa": (1, "effect"), "efb": (0, "effect")}
    return Schema({"cart": ["item", "many"], "price": ["item", "cost"], "none": ["x"]}, functions).with_kinds(kinds)


def stock(**changed):
    told = {"cart": [(7, 2), (8, 1), (7, 5)], "price": [(7, 100), (8, 50)]}
    told.update(changed)
    return Contents(market(), told)


def seen(arguments, many):
    """Answer with all that was asked: the arguments in thousands, and many."""
    return sum(arguments) * 1000 + many


EACH = {name: seen for name in market().functions()}
C, P = ("each", "c", "cart"), ("each", "p", "price")
A = ("call", "a", "cha", (("c", "many"),))
E = ("call", "e", "efa", (("c", "item"),))


def record_of(items, shown=(), contents=None, functions=EACH, **more):
    return record(Plan(market(), items, shown, **more), stock() if contents is None else contents, functions)


def full():
    """Return the Record of a plan that calls functions of all kinds, among kept items, too."""
    kept = [C, ("call", "a", "cha", (("c", "many"),)), ("call", "b", "efb", ())]
    items = [P, ("call", "d", "efa", (("p", "cost"),)), ("use",), ("same", ("c", "item"), ("p", "item")),
             ("call", "f", "cha", (1,)), ("call", "g", "fix", ("f",)), ("call", "h", "sta", ())]
    return record_of(items, ["a", ("p", "cost")], marks=["p", "c"], kept=kept)


def all_told(one):
    """Return what all queries of a Record of this schema return."""
    told = [one.rows(), one.calls("cha"), one.calls("chb"), one.effects(), len(one)]
    return told + [one.counted(name) for name in market().functions()]


class Queries(unittest.TestCase):
    def test_rows(self):
        self.assertEqual([((("c", 0), ("p", 0)), (2000, 100)), ((("c", 2), ("p", 0)), (5002, 100)),
                          ((("c", 1), ("p", 1)), (1001, 50))], full().rows())
        self.assertEqual(list(walk(Plan(market(), [C, P], [("c", "many")], marks=["p"]), stock(), EACH)),
                         record_of([C, P], [("c", "many")], marks=["p"]).rows())

    def test_calls(self):
        kept = [("cha", (many,), (("c", at),)) for at, many in enumerate([2, 1, 5])]
        main = [("cha", (1,), numbers) for numbers, _ in full().rows()]
        self.assertEqual(kept + main, full().calls("cha"))
        self.assertEqual([], full().calls("chb"))

    def test_effects(self):
        kept = [("efb", (), (("c", at),)) for at in range(3)]
        self.assertEqual([*kept, ("efa", (100,), (("p", 0),)), ("efa", (50,), (("p", 1),))], full().effects())
        self.assertEqual([], record_of([C]).effects())

    def test_effects_of_several_functions_stand_in_one_list(self):
        items = [C, E, ("call", "b", "efb", ()), ("call", "d", "efa", (1,))]
        expected = [call for item in (7, 8, 7) for call in [("efa", (item,), ()), ("efb", (), ()), ("efa", (1,), ())]]
        self.assertEqual(expected, record_of(items).effects())

    def test_calls_of_each_changing_function_stand_alone(self):
        one = record_of([C, A, ("call", "b", "chb", ()), ("call", "d", "cha", (1,))], marks=["c"])
        self.assertEqual([("cha", (many,), (("c", at),)) for at, first in enumerate([2, 1, 5]) for many in (first, 1)],
                         one.calls("cha"))
        self.assertEqual([("chb", (), (("c", at),)) for at in range(3)], one.calls("chb"))

    def test_numbers_of_calls_are_of_the_marked_loops_that_are_open_there(self):
        items = [("call", "a", "efb", ()), C, ("call", "b", "efb", ()), P, ("call", "d", "efb", ()), ("use",),
                 ("call", "e", "efb", ())]
        kept = [("call", "f", "efb", ()), ("each", "k", "price"), ("call", "g", "efb", ())]
        for marks in [[], ["c"], ["p", "k"], ["k", "c", "p"], ["k"]]:
            calls = record_of(items, contents=stock(cart=[(7, 2)], price=[(7, 1)]), marks=marks, kept=kept).effects()
            expected = [[], ["k"], [], ["c"], ["c", "p"], ["c", "k", "p"]]
            self.assertEqual([[loop for loop in loops if loop in marks] for loops in expected],
                             [[loop for loop, _ in numbers] for _, _, numbers in calls])

    def test_counted(self):
        one = full()
        self.assertEqual([6, 0, 2, 3, 3, 3], [one.counted(name) for name in market().functions()])
        self.assertEqual([3, 3, 2, 3, 3, 3], [one.counted_at(answer) for answer in "abdfgh"])

    def test_what_was_not_called(self):
        one = record_of([C, ("same", 1, 2), A, E])
        self.assertEqual([0] * 6, [one.counted(name) for name in market().functions()])
        self.assertEqual([0, 0], [one.counted_at("a"), one.counted_at("e")])
        self.assertEqual([[], [], [], []], [one.rows(), one.calls("cha"), one.calls("chb"), one.effects()])

    def test_items_of_one_function_are_counted_together_and_each(self):
        one = record_of([("call", "x", "sta", ()), C, ("call", "y", "sta", ()), ("same", ("c", "many"), 1),
                         ("call", "z", "sta", ())])
        self.assertEqual([5, 1, 3, 1], [one.counted("sta"), *[one.counted_at(name) for name in "xyz"]])

    def test_length(self):
        for cart in [[], [(1, 1)], [(1, 1)] * 8]:
            self.assertEqual(len(cart), len(record_of([C, A], contents=stock(cart=cart))))
        self.assertEqual(1, len(record_of([])))

    def test_unknown_names(self):
        one = full()
        for name in ["fix", "sta", "efa", "efb", "none", "a", "cart", "", "."]:
            self.assertEqual(("Unknown", name), error_of(lambda: one.calls(name)))
        for name in ["none", "a", "cart", "", "."]:
            self.assertEqual(("Unknown", name), error_of(lambda: one.counted(name)))
        for name in ["none", "cha", "c", "p", "cart", "", "."]:
            self.assertEqual(("Unknown", name), error_of(lambda: one.counted_at(name)))

    def test_the_kinds_of_the_plan_count(self):
        schema = market(cha="fixed", efa="changing", chb="effect", sta="changing")
        items = [C, A, E, ("call", "b", "chb", ()), ("call", "s", "sta", ())]
        one = record(Plan(schema, items), Contents(schema, {"cart": [(7, 2)]}), EACH)
        self.assertEqual([[("efa", (7,), ())], [("sta", (), ())], [("chb", (), ())], 1],
                         [one.calls("efa"), one.calls("sta"), one.effects(), one.counted("cha")])
        for name in ["cha", "chb"]:
            self.assertEqual(("Unknown", name), error_of(lambda: one.calls(name)))

    def test_the_plan_is_run_once(self):
        asked = []

        def noting(arguments, many):
            asked.append((arguments, many))
            return many

        one = record_of([C, A], ["a"], functions={"cha": noting})
        all_told(one), one.parts(one), one == one
        self.assertEqual([((2,), 0), ((1,), 1), ((5,), 2)], asked)
        self.assertEqual([((), (0,)), ((), (1,)), ((), (2,))], one.rows())


class Parts(EqualityCase):
    def assert_parts(self, parts, one, other):
        self.assertEqual(parts, one.parts(other))
        self.assertEqual(parts, other.parts(one))
        if parts:
            self.assert_unlike(one, other)
            self.assert_unlike(other, one)
        else:
            self.assert_equal(one, other)
            self.assert_equal(other, one)

    def test_equal_records(self):
        self.assert_parts([], full(), full())
        self.assert_parts([], record_of([]), record_of([]))
        self.assert_equal(record_of([("same", 1, 2)]), record_of([("same", 1, 3)]))

    def test_what_is_only_counted_does_not_matter(self):
        calls = [("call", "x", "fix", (1,)), ("call", "y", "sta", ())]
        one, other = record_of([C, A, E], ["a"]), record_of([C, *calls, A, E], ["a"])
        self.assert_parts([], one, other)
        self.assertEqual([0, 3], [one.counted("fix"), other.counted("fix")])

    def test_names_of_answers_do_not_matter(self):
        self.assert_parts([], record_of([C, A], ["a"]), record_of([C, ("call", "b", *A[2:])], ["b"]))

    def test_rows_alone(self):
        one = record_of([C, A, E], [("c", "many")])
        self.assert_parts(["."], one, record_of([C, A, E], [("c", "item")]))
        self.assert_parts(["."], one, record_of([C, A, E]))
        self.assert_parts(["."], one, record_of([C, A, E, ("same", 1, 2)], [("c", "many")]))
        self.assert_parts(["."], record_of([C], [1]), record_of([C, P], [1]))
        turned = stock(cart=stock().rows("cart")[::-1])
        self.assert_parts(["."], record_of([C], [("c", "many")]), record_of([C], [("c", "many")], turned))

    def test_calls_alone(self):
        one = record_of([C, A, E])
        self.assert_parts(["cha"], one, record_of([C, ("call", "a", "cha", (("c", "item"),)), E]))
        self.assert_parts(["cha"], one, record_of([C, E]))
        self.assert_parts(["chb"], one, record_of([C, A, E, ("call", "b", "chb", ())]))
        self.assert_parts([""], one, record_of([C, A]))
        self.assert_parts([""], one, record_of([C, A, E, ("call", "b", "efb", ())]))
        self.assert_parts([""], record_of([("call", "b", "efb", ()), ("call", "e", "efa", (1,))]),
                          record_of([("call", "e", "efa", (1,)), ("call", "b", "efb", ())]))

    def test_both(self):
        one = record_of([C, A, E], ["a"])
        self.assert_parts(["", ".", "cha"], one, record_of([C, ("unlike", ("c", "item"), 8), A, E], ["a"]))
        self.assert_parts(["", ".", "cha", "chb"], one, record_of([("call", "b", "chb", ())]))
        self.assert_parts([".", "cha"], one, record_of([C, ("call", "a", "cha", (3,)), E], ["a"]))

    def test_other_marks_and_shown_terms(self):
        one = record_of([C, A, E], ["a", ("c", "item")])
        self.assert_parts(["", ".", "cha"], one, record_of([C, A, E], ["a", ("c", "item")], marks=["c"]))
        ahead = ("call", "a", "cha", (1,))
        self.assert_parts(["."], record_of([ahead, C], [1]), record_of([ahead, C], [1], marks=["c"]))
        self.assert_parts(["."], one, record_of([C, A, E], [("c", "item"), "a"]))
        self.assert_parts([], one, record_of([C, A, E], ["a", ("c", "item")], marks=[]))
        self.assert_parts([], record_of([C, ("same", 1, 2)], marks=["c"]), record_of([C, ("same", 1, 2)], [1]))

    def test_names_of_marked_loops_matter(self):
        self.assert_parts(["."], record_of([C], marks=["c"]), record_of([("each", "d", "cart")], marks=["d"]))

    def test_other_contents_and_functions(self):
        one = record_of([C, A, E], ["a"])
        self.assert_parts(["."], one, record_of([C, A, E], ["a"], functions={**EACH, "cha": lambda a, many: 0}))
        self.assert_parts([], one, record_of([C, A, E], ["a"], functions={**EACH, "efa": lambda a, many: 0}))
        self.assert_parts(["", ".", "cha"], one, record_of([C, A, E], ["a"], stock(cart=[(7, 2)])))

    def test_things_of_other_sorts(self):
        one = full()
        for thing in [*of_all_sorts(), one.rows(), market(), stock(), Plan(market(), [])]:
            with self.subTest(thing=thing):
                self.assert_unlike(one, thing)
                if not isinstance(thing, Equal):
                    self.assert_unlike(thing, one)


class Owned(unittest.TestCase):
    def test_what_is_returned_is_new(self):
        one = full()
        before = all_told(one)
        for returned in [one.rows(), one.calls("cha"), one.calls("chb"), one.effects(), one.parts(one),
                         one.parts(record_of([]))]:
            returned.append("new")
            returned.reverse()
        self.assertEqual(before, all_told(one))
        self.assertEqual(full(), one)

    def test_arguments_are_not_changed(self):
        plan, contents, functions = Plan(market(), [C, A], ["a"]), stock(), dict(EACH)
        one = record(plan, contents, functions)
        self.assertEqual([Plan(market(), [C, A], ["a"]), stock(), EACH], [plan, contents, functions])
        functions.clear()
        self.assertEqual(record_of([C, A], ["a"]), one)

    def test_nothing_changes_where_an_error_is_raised(self):
        one = full()
        for call in [lambda: one.calls("fix"), lambda: one.counted("none"), lambda: one.counted_at("none")]:
            error_of(call)
            self.assertEqual(all_told(full()), all_told(one))
            self.assertEqual(full(), one)

    def test_what_a_function_raises_goes_through(self):
        error = KeyError("a")

        def failing(arguments, many):
            raise error

        with self.assertRaises(KeyError) as caught:
            record_of([C, A], functions={"cha": failing})
        self.assertIs(error, caught.exception)


class Compared(unittest.TestCase):
    """Many plans, run as plainly as can be."""

    def test_many_plans(self):
        for plan, contents, functions in cases(700):
            plain, one = PlainRun(plan, contents, functions), record(plan, contents, functions)
            with self.subTest(steps=plan.steps()):
                self.assertIsInstance(one, Record)
                self.assertEqual(plain.rows, one.rows())
                told = [(call[1], call[2], call[5]) for call in plain.calls]
                for name in ["cha", "chb"]:
                    self.assertEqual([call for call in told if call[0] == name], one.calls(name))
                self.assertEqual([call for call in told if call[0] in ("efa", "efb")], one.effects())
                names = [call[1] for call in plain.calls]
                for name in plan.schema.functions():
                    self.assertEqual(names.count(name), one.counted(name))
                answers = [call[0] for call in plain.calls]
                for answer in plan.answers():
                    self.assertEqual(answers.count(answer), one.counted_at(answer))


if __name__ == "__main__":
    unittest.main()
