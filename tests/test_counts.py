"""Least sets of loops that settle a place, and how often a call is made at most [42]."""

import random
import unittest

from lands import planned
from plancalls.counts import bound, settling
from plancalls.records import record
from richly import rich_contents, rich_functions, rich_plan, rich_schema
from things import error_of

W, V, T, U = ("each", "w", "ware"), ("each", "v", "ware"), ("each", "t", "town"), ("each", "u", "town")
CALL = ("call", "x", "ping", ())


class Settling(unittest.TestCase):
    def test_no_loops(self):
        self.assertEqual([()], settling(planned(), 0))

    def test_loops_that_all_are_needed(self):
        self.assertEqual([("t", "v", "w")], settling(planned(W, V, T), 3))
        self.assertEqual([[()], [("w",)], [("v", "w")]], [settling(planned(W, V), place) for place in range(3)])

    def test_a_loop_settled_by_another_one(self):
        self.assertEqual([("w",)], settling(planned(T, W, ("same", ("w", "town"), ("t", "id"))), 3))

    def test_several_least_sets(self):
        plan = planned(U, T, ("same", ("t", "id"), ("u", "id")), ("each", "l", "land"))
        self.assertEqual([("l", "t"), ("l", "u")], settling(plan, 4))
        plan = planned(U, T, ("each", "l", "land"), ("same", ("t", "near"), ("u", "id")),
                       ("same", ("u", "near"), ("t", "id")), ("same", ("l", "head"), ("t", "id")))
        self.assertEqual([("l",)], settling(plan, 6))

    def test_sets_of_unlike_sizes(self):
        # The first answer needs both t and u; the loop over land alone settles them, and they settle it.
        for loop, expected in [("l", [("l",), ("t", "u")]), ("tt", [("t", "u"), ("tt",)])]:
            plan = planned(T, U, ("each", loop, "land"), ("call", "x", "add", (("t", "id"), ("u", "id"))),
                           ("same", (loop, "id"), "x"), ("call", "y", "now", ((loop, "id"),)),
                           ("same", ("t", "id"), "y"), ("call", "z", "fix", ((loop, "id"),)),
                           ("same", ("u", "id"), "z"))
            self.assertEqual(expected, settling(plan, 9))

    def test_none_is_needed(self):
        self.assertEqual([()], settling(planned(T, ("same", ("t", "id"), 1)), 2))
        plan = planned(("call", "x", "draw", (1,)), T, ("same", ("t", "id"), "x"))
        self.assertEqual([()], settling(plan, 3))

    def test_at_places_of_kept_items(self):
        plan = planned(W, ("use",), ("same", ("w", "town"), ("t", "id")), kept=[T, U])
        self.assertEqual([[()], [("t",)], [()], [("w",)], [("t", "u", "w")], [("u", "w")]],
                         [settling(plan, place) for place in range(6)])

    def test_each_list_is_new(self):
        plan = planned(W)
        settling(plan, 1).clear()
        self.assertEqual([("w",)], settling(plan, 1))


class Bound(unittest.TestCase):
    def test_products_of_sizes(self):
        sizes = {"ware": 3, "town": 10 ** 30}
        self.assertEqual(9 * 10 ** 30, bound(planned(W, V, T, CALL), "x", sizes))
        self.assertEqual(3, bound(planned(W, T, ("same", ("w", "town"), ("t", "id")), CALL), "x", sizes))
        self.assertEqual(10 ** 60, bound(planned(U, T, CALL), "x", {"town": 10 ** 30}))

    def test_the_least_of_the_products(self):
        plan = planned(T, ("each", "m", "mayor"), ("same", ("t", "id"), ("m", "id")), CALL)
        self.assertEqual([3, 2], [bound(plan, "x", {"town": towns, "mayor": 7 - towns}) for towns in [3, 5]])

    def test_no_loops(self):
        self.assertEqual(1, bound(planned(CALL), "x", {}))
        self.assertEqual(1, bound(planned(T, ("same", ("t", "id"), 3), CALL), "x", {"town": 8}))

    def test_sizes_of_none_and_sizes_that_are_left_out(self):
        settled = planned(W, T, ("same", ("w", "town"), ("t", "id")), CALL)
        for sizes in [{"ware": 5, "town": 0}, {"ware": 5}, {"town": 5}, {}, {"ware": 0, "town": 5}]:
            self.assertEqual(0, bound(settled, "x", sizes))
        self.assertEqual(0, bound(planned(T, ("same", ("t", "id"), 3), CALL), "x", {}))

    def test_tables_of_no_open_loop(self):
        self.assertEqual(4, bound(planned(W, CALL, T), "x", {"ware": 4, "town": 0, "none": 0}))

    def test_calls_of_every_kind(self):
        for function, many in [("fix", 1), ("now", 1), ("draw", 1), ("log", 1)]:
            self.assertEqual(6, bound(planned(W, ("call", "x", function, (1,)), V), "x", {"ware": 6}))

    def test_conditions_that_clash(self):
        self.assertEqual(0, bound(planned(W, ("same", 1, 2), CALL), "x", {"ware": 5}))
        self.assertEqual(0, bound(planned(("unlike", 1, 1), CALL), "x", {}))
        self.assertEqual(1, bound(planned(CALL, ("unlike", 1, 1)), "x", {}))

    def test_kept_calls(self):
        plan = planned(W, ("use",), ("call", "y", "ping", ()), kept=[T, CALL])
        self.assertEqual([5, 20], [bound(plan, name, {"town": 5, "ware": 4}) for name in "xy"])

    def test_names_that_are_no_answers(self):
        for name in ["w", "y", "ping", ""]:
            self.assertEqual(("Unknown", name), error_of(lambda: bound(planned(W, ("same", 1, 2), CALL), name, {})))

    def test_sizes_are_not_changed(self):
        sizes = {"ware": 5}
        bound(planned(T, W, CALL), "x", sizes)
        self.assertEqual({"ware": 5}, sizes)

    def test_no_run_on_contents_that_keep_the_schema_calls_more_often(self):
        chance = random.Random(42)
        reached = 0
        for _ in range(150):
            schema = rich_schema(chance)
            plan = rich_plan(chance, schema)
            functions = rich_functions(chance, schema)
            contents = rich_contents(chance, schema, functions)
            sizes = {table: contents.size(table) for table in schema.tables()}
            once = record(plan, contents, functions)
            for name in plan.answers():
                most = bound(plan, name, sizes)
                self.assertLessEqual(once.counted_at(name), most)
                reached += once.counted_at(name) == most > 1
        self.assertGreater(reached, 20)


if __name__ == "__main__":
    unittest.main()
