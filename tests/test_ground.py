"""What is ground over loops and over rows, which loops are settled, and the order keys [2] [52]."""

import unittest

from lands import BIG, CHAIN, ask, cell, look, number, planned, row, told
from plancalls.closures import Closure
from plancalls.ground import is_ground, is_ground_by, is_settled, order_keys, written
from plancalls.plans import Plan
from plancalls.schemas import Schema
from plancalls.ties import loops_in

W, V, T, U = ("each", "w", "ware"), ("each", "v", "ware"), ("each", "t", "town"), ("each", "u", "town")
KEY_T, KEY_U = cell("t", "id"), cell("u", "id")
# Tables without references, so that nothing leads anywhere.
BARE = Schema({"one": ["a", "b"], "key": ["id", "a"]}, {"fix": (1, "fixed"), "draw": (1, "changing"),
                                                      "log": (0, "effect")}, keys={"key": "id"})


class GroundCase(unittest.TestCase):
    def assert_ground(self, plan, place, tie, loops):
        self.assertIs(True, is_ground(plan, place, tie, loops))
        self.assertIs(True, is_ground_by(plan, place, tie, self.rows(plan, loops)))
        found = written(plan, place, tie, loops)
        self.assertIs(True, Closure(plan, place).same(tie, found))
        self.assertEqual([], [loop for loop in loops_in(found) if loop not in loops])

    def assert_not_ground(self, plan, place, tie, loops):
        self.assertIs(False, is_ground(plan, place, tie, loops))
        self.assertIs(False, is_ground_by(plan, place, tie, self.rows(plan, loops)))
        self.assertIsNone(written(plan, place, tie, loops))

    def rows(self, plan, loops):
        found = []
        for loop in loops:
            table = plan.table_of(loop)
            key = plan.schema.key(table)
            found.append(("loop", loop) if key is None else row(table, cell(loop, key)))
        return found


class Ground(GroundCase):
    def test_integers(self):
        self.assert_ground(planned(), 0, number(BIG), [])
        self.assert_ground(planned(W, ("same", ("w", "cost"), -BIG)), 2, cell("w", "cost"), [])
        self.assertEqual(number(-BIG), written(planned(W, ("same", ("w", "cost"), -BIG)), 2, cell("w", "cost"), []))

    def test_cells_of_the_loops(self):
        plan = planned(W, V, ("same", ("w", "cost"), ("v", "cost")))
        self.assert_ground(plan, 2, cell("w", "cost"), ["w"])
        self.assert_not_ground(plan, 2, cell("w", "cost"), ["v"])
        self.assert_not_ground(plan, 2, cell("w", "cost"), [])
        self.assert_ground(plan, 3, cell("w", "cost"), ["v"])
        self.assertEqual(cell("v", "cost"), written(plan, 3, cell("w", "cost"), ["v"]))
        self.assert_ground(plan, 3, cell("w", "cost"), ["v", "w"])

    def test_looks_of_ground_ties(self):
        plan = planned(W, T, ("same", ("w", "town"), ("t", "id")))
        self.assert_ground(plan, 3, look("town", "near", KEY_T), ["w"])
        self.assertEqual(look("town", "near", cell("w", "town")), written(plan, 3, look("town", "near", KEY_T), ["w"]))
        self.assert_not_ground(plan, 2, look("town", "near", KEY_T), ["w"])
        self.assert_ground(plan, 2, look("town", "near", number(3)), [])

    def test_answers_of_ground_arguments(self):
        plan = planned(W, T, ("call", "x", "add", (("w", "cost"), ("t", "id"))), ("same", "x", ("t", "near")))
        self.assert_ground(plan, 3, ask("add", cell("w", "cost"), KEY_T), ["t", "w"])
        self.assert_not_ground(plan, 3, ask("add", cell("w", "cost"), KEY_T), ["w"])
        self.assert_ground(plan, 4, look("town", "near", KEY_T), ["t"])
        self.assert_ground(planned(), 0, ask("const"), [])

    def test_made_columns(self):
        plan = planned(W, ("same", ("w", "cost"), 7))
        self.assert_ground(plan, 2, cell("w", "net"), [])
        self.assertEqual(ask("fix", number(7)), written(plan, 2, cell("w", "net"), []))
        self.assert_not_ground(plan, 2, cell("w", "all"), [])

    def test_what_leads_around_is_not_ground(self):
        plan = planned(T, U, ("same", ("t", "near"), ("u", "id")), ("same", ("u", "near"), ("t", "id")))
        for loop, key in [("t", KEY_T), ("u", KEY_U)]:
            self.assert_not_ground(plan, 4, key, [])
        self.assert_ground(plan, 4, KEY_T, ["u"])
        self.assert_ground(plan, 4, KEY_U, ["t"])

    def test_ties_that_are_put_in_make_others_ground_if_they_are_equal(self):
        plan = planned(W, T, ("call", "x", "now", (("t", "id"),)), ("same", ("t", "id"), ("w", "cost")))
        self.assert_ground(plan, 4, ask("now", KEY_T), ["w"])
        self.assertEqual(ask("now", cell("w", "cost")), written(plan, 4, ask("now", KEY_T), ["w"]))

    def test_what_is_written_where_conditions_clash(self):
        plan = planned(W, ("same", ("w", "cost"), 1), ("same", ("w", "cost"), 2))
        self.assertIs(True, is_ground(plan, 3, cell("w", "cost"), []))
        self.assertIs(False, is_ground(plan, 3, cell("w", "town"), []))
        self.assertIn(written(plan, 3, cell("w", "cost"), []), [number(1), number(2)])
        self.assertEqual([("loop", "w")], order_keys(plan, 3))

    def test_lists_are_not_changed(self):
        plan = planned(W, T)
        loops, rows = ["w"], [("loop", "w"), row("town", KEY_T)]
        self.assertIs(True, is_ground(plan, 2, cell("w", "cost"), loops))
        self.assertIs(True, is_ground_by(plan, 2, KEY_T, rows))
        written(plan, 2, KEY_T, loops)
        is_settled(plan, 2, "t", loops)
        self.assertEqual((["w"], [("loop", "w"), row("town", KEY_T)]), (loops, rows))

    def test_answers_of_thousands_of_parts(self):
        tie = number(1)
        for _ in range(9):
            tie = ask("mix", tie, tie, tie)
        plan = planned(schema=CHAIN)
        self.assertEqual(tie, written(plan, 0, tie, []))


class GroundByRows(GroundCase):
    def test_rows_of_any_ties(self):
        plan = planned(W, T, U)
        self.assertIs(True, is_ground_by(plan, 3, look("town", "land", cell("w", "town")),
                                         [row("town", cell("w", "town"))]))
        self.assertIs(False, is_ground_by(plan, 3, look("town", "land", KEY_T), [row("town", cell("w", "town"))]))
        near = look("town", "near", KEY_U)
        self.assertIs(True, is_ground_by(plan, 3, look("town", "near", near), [row("town", near)]))
        self.assertIs(False, is_ground_by(plan, 3, KEY_U, [row("town", near)]))

    def test_rows_whose_ties_are_in_one_class(self):
        plan = planned(W, T, ("same", ("w", "cost"), ("t", "id")))
        self.assertIs(True, is_ground_by(plan, 3, KEY_T, [row("town", cell("w", "cost"))]))
        self.assertIs(False, is_ground_by(plan, 2, KEY_T, [row("town", cell("w", "cost"))]))

    def test_a_row_of_a_tie_that_does_not_occur(self):
        plan = planned(W, T, ("same", ("w", "cost"), ("t", "id")))
        rows = [row("town", look("town", "near", cell("w", "cost")))]
        self.assertIs(True, is_ground_by(plan, 3, look("town", "near", KEY_T), rows))
        self.assertIs(False, is_ground_by(plan, 2, look("town", "near", KEY_T), rows))

    def test_no_rows_and_several(self):
        plan = planned(W, V, T)
        tie = ask("add", cell("w", "cost"), ask("add", cell("v", "cost"), KEY_T))
        rows = [row("town", KEY_T), ("loop", "w"), ("loop", "v")]
        self.assertIs(True, is_ground_by(plan, 3, tie, rows))
        for left in [[], rows[:2], rows[1:], rows[::2]]:
            self.assertIs(False, is_ground_by(plan, 3, tie, left))


class Told(GroundCase):
    def test_answers_of_sites_ahead_over_the_loops_there(self):
        plan = planned(W, ("call", "x", "draw", (("w", "cost"),)), V, ("call", "y", "ping", ()))
        self.assert_ground(plan, 4, told("draw", 0), ["w"])
        self.assert_not_ground(plan, 4, told("draw", 0), ["v"])
        self.assert_not_ground(plan, 4, told("", 0), ["w"])
        # At its own place a site is not ahead.
        self.assert_not_ground(plan, 3, told("", 0), ["v", "w"])
        self.assert_not_ground(plan, 1, told("draw", 0), ["w"])

    def test_answers_of_sites_without_loops(self):
        plan = planned(("call", "x", "draw", (1,)), W, ("same", "x", ("w", "cost")))
        self.assert_ground(plan, 1, told("draw", 0), [])
        self.assert_ground(plan, 3, cell("w", "cost"), [])
        self.assertEqual(told("draw", 0), written(plan, 3, cell("w", "cost"), []))
        self.assert_not_ground(plan, 0, told("draw", 0), [])

    def test_answers_that_are_not_there(self):
        plan = planned(W, ("call", "x", "draw", (1,)), ("same", 1, 2), ("call", "y", "draw", (1,)))
        for tie in [told("draw", 1), told("draw", -1), told("", 0), told("log", 0)]:
            self.assertIs(False, is_ground(plan, 4, tie, ["w"]))

    def test_order_keys_with_a_key_whose_class_is_ground(self):
        plan = planned(T, ("call", "x", "draw", (1,)), W, ("same", ("w", "cost"), ("t", "id")))
        self.assert_not_ground(plan, 3, told("draw", 0), ["w"])
        self.assert_ground(plan, 3, told("draw", 0), ["t"])
        self.assert_ground(plan, 4, told("draw", 0), ["w"])
        self.assertEqual(told("draw", 0), written(plan, 4, told("draw", 0), ["w"]))

    def test_loops_that_are_settled_where_the_call_is_made_are_not_needed(self):
        plan = planned(W, T, ("same", ("t", "id"), ("w", "town")), ("call", "x", "draw", (1,)), U,
                       ("same", "x", ("u", "id")))
        self.assert_ground(plan, 6, KEY_U, ["w"])
        self.assert_not_ground(plan, 6, KEY_U, ["t"])

    def test_kept_answers_are_ahead_behind_their_use(self):
        plan = planned(V, ("use",), W, kept=[("call", "x", "draw", (1,)), T])
        self.assert_ground(plan, 1, told("draw", 0), [])
        for place in [0, 2, 3]:
            self.assert_not_ground(plan, place, told("draw", 0), [])
        for place in [4, 5]:
            self.assert_ground(plan, place, told("draw", 0), [])

    def test_answers_that_lead_to_the_loops_of_later_calls(self):
        plan = planned(("call", "x", "draw", (1,)), T, ("same", ("t", "id"), "x"), ("call", "y", "draw", (2,)),
                       U, ("same", ("u", "id"), "y"), ("call", "z", "log", (1,)), W)
        self.assertEqual([[], [], [row("town", KEY_T)], []], [order_keys(plan, place) for place in range(4)])
        self.assert_ground(plan, 8, told("", 0), [])
        self.assertEqual([("loop", "w")], order_keys(plan, 8))


class Names(GroundCase):
    def test_a_loop_with_the_name_of_a_function_and_of_a_table(self):
        plan = planned(("each", "draw", "ware"), V, ("call", "x", "draw", (1,)))
        self.assert_ground(plan, 3, cell("draw", "cost"), ["draw"])
        self.assert_not_ground(plan, 3, told("draw", 0), ["draw"])
        self.assert_not_ground(plan, 2, told("draw", 0), ["draw", "v"])
        plan = planned(("each", "town", "town"), T, ("same", ("town", "near"), ("t", "near")))
        self.assert_not_ground(plan, 3, look("town", "land", KEY_T), ["town"])
        self.assert_ground(plan, 3, look("town", "near", KEY_T), ["town"])


class Settled(unittest.TestCase):
    def settled(self, plan, loop, loops, place=None):
        found = is_settled(plan, len(plan.steps()) if place is None else place, loop, loops)
        self.assertIn(found, [True, False])
        return found

    def test_a_loop_without_a_key_is_settled_by_itself_alone(self):
        plan = planned(W, V, ("same", ("w", "cost"), 1), ("same", ("w", "town"), 2))
        self.assertEqual([True, True, False, False],
                         [self.settled(plan, "w", loops) for loops in [["w"], ["v", "w"], ["v"], []]])

    def test_a_loop_with_a_key(self):
        plan = planned(W, T, ("same", ("w", "town"), ("t", "id")))
        self.assertEqual([True, True, False], [self.settled(plan, "t", loops) for loops in [["w"], ["t"], []]])
        self.assertEqual([False, True], [self.settled(plan, "t", loops, place=2) for loops in [["w"], ["t"]]])
        self.assertIs(False, self.settled(plan, "w", ["t"]))

    def test_by_an_integer_and_by_a_call(self):
        self.assertIs(True, self.settled(planned(T, ("same", ("t", "id"), 4)), "t", []))
        self.assertIs(True, self.settled(planned(T, ("call", "x", "fix", (3,)), ("same", ("t", "id"), "x")), "t", []))
        self.assertIs(False, self.settled(planned(T, ("same", ("t", "near"), 4)), "t", []))

    def test_by_a_row_that_a_reference_leads_to(self):
        plan = planned(T, ("each", "m", "mayor"), ("each", "l", "land"), ("same", ("t", "land"), ("l", "id")),
                       ("same", ("l", "head"), ("m", "id")))
        self.assertEqual([True, True, False], [self.settled(plan, "m", loops) for loops in [["t"], ["l"], []]])
        self.assertIs(False, self.settled(plan, "t", ["l", "m"]))

    def test_all_and_none(self):
        plan = planned(W, V, T)
        self.assertEqual([True] * 3, [self.settled(plan, loop, ["t", "v", "w"]) for loop in "wvt"])
        self.assertEqual([False] * 3, [self.settled(plan, loop, []) for loop in "wvt"])


class OrderKeys(unittest.TestCase):
    def test_no_loops(self):
        self.assertEqual([], order_keys(planned(), 0))
        self.assertEqual([], order_keys(planned(("call", "x", "ping", ())), 1))

    def test_open_loops_in_order(self):
        plan = planned(W, T, V)
        self.assertEqual([[], [("loop", "w")], [("loop", "w"), row("town", KEY_T)],
                          [("loop", "w"), row("town", KEY_T), ("loop", "v")]],
                         [order_keys(plan, place) for place in range(4)])

    def test_loops_that_earlier_ones_settle_are_left_out(self):
        plan = planned(W, T, ("same", ("w", "town"), ("t", "id")))
        self.assertEqual([[("loop", "w"), row("town", KEY_T)], [("loop", "w")]],
                         [order_keys(plan, place) for place in [2, 3]])

    def test_loops_that_later_ones_settle_stay(self):
        plan = planned(T, W, ("same", ("w", "town"), ("t", "id")))
        self.assertEqual([row("town", KEY_T), ("loop", "w")], order_keys(plan, 3))

    def test_two_loops_that_settle_one_another(self):
        for loops in ["tu", "ut"]:
            plan = planned(*[("each", loop, "town") for loop in loops], ("same", ("t", "id"), ("u", "id")))
            self.assertEqual([row("town", cell(loops[0], "id"))], order_keys(plan, 3))

    def test_loops_settled_by_what_settled_loops_lead_to(self):
        items = [("same", ("u", "id"), ("t", "near")), ("same", ("t", "id"), ("w", "town"))]
        self.assertEqual([("loop", "w")], order_keys(planned(W, T, U, *items), 5))
        self.assertEqual([("loop", "w")], order_keys(planned(W, U, T, *items), 5))
        self.assertEqual([row("town", KEY_T), ("loop", "w")], order_keys(planned(T, U, W, *items), 5))

    def test_a_loop_settled_by_an_integer(self):
        plan = planned(T, ("same", ("t", "id"), 3), W)
        self.assertEqual([[row("town", KEY_T)], [], [("loop", "w")]], [order_keys(plan, place) for place in [1, 2, 3]])

    def test_kept_loops(self):
        plan = planned(V, ("use",), U, ("same", ("u", "id"), ("w", "town")), kept=[W, T])
        self.assertEqual([[], [("loop", "w")], [], [("loop", "v")],
                          [("loop", "v"), ("loop", "w"), row("town", KEY_T)],
                          [("loop", "v"), ("loop", "w"), row("town", KEY_T), row("town", KEY_U)],
                          [("loop", "v"), ("loop", "w"), row("town", KEY_T)]],
                         [order_keys(plan, place) for place in range(7)])

    def test_loops_settled_by_answers(self):
        plan = Plan(BARE, [("each", "o", "one"), ("call", "x", "draw", (1,)), ("each", "k", "key"),
                           ("same", ("k", "id"), "x"), ("call", "y", "log", ())])
        self.assertEqual([("loop", "o")], order_keys(plan, 5))
        plan = Plan(BARE, [("each", "k", "key"), ("call", "x", "draw", (1,)), ("each", "o", "one"),
                           ("same", ("k", "id"), "x")])
        self.assertEqual([row("key", cell("k", "id")), ("loop", "o")], order_keys(plan, 4))

    def test_each_list_is_new(self):
        plan = planned(W)
        order_keys(plan, 1).clear()
        self.assertEqual([("loop", "w")], order_keys(plan, 1))


if __name__ == "__main__":
    unittest.main()
