"""What the tie of a term is, which conditions stand at a place, and which ties a tie has in it [50]."""

import unittest

from lands import BIG, ask, cell, look, number, planned, told
from plancalls.ties import conditions, inner_ties, loops_in, tie_of

W, T = ("each", "w", "ware"), ("each", "t", "town")


class TieOf(unittest.TestCase):
    def test_integers(self):
        for value in [0, -1, BIG, -BIG]:
            self.assertEqual(number(value), tie_of(planned(), 0, value))

    def test_columns_of_a_table_without_a_key_and_of_one_with_a_key(self):
        plan = planned(W, T)
        self.assertEqual(cell("w", "cost"), tie_of(plan, 2, ("w", "cost")))
        self.assertEqual(cell("w", "net"), tie_of(plan, 2, ("w", "net")))
        self.assertEqual(cell("t", "id"), tie_of(plan, 2, ("t", "id")))
        self.assertEqual(look("town", "near", cell("t", "id")), tie_of(plan, 2, ("t", "near")))

    def test_the_same_table_in_two_loops(self):
        plan = planned(T, ("each", "u", "town"))
        self.assertEqual([look("town", "land", cell(loop, "id")) for loop in "tu"],
                         [tie_of(plan, 2, (loop, "land")) for loop in "tu"])

    def test_answers_of_fixed_and_stable_functions(self):
        plan = planned(W, ("call", "x", "fix", (("w", "cost"),)), ("call", "y", "now", ("x",)),
                       ("call", "z", "add", ("y", -3)))
        x = ask("fix", cell("w", "cost"))
        self.assertEqual(x, tie_of(plan, 2, "x"))
        self.assertEqual(ask("now", x), tie_of(plan, 3, "y"))
        self.assertEqual(ask("add", ask("now", x), number(-3)), tie_of(plan, 4, "z"))

    def test_answers_of_sites_are_counted_in_their_streams(self):
        plan = planned(("call", "a", "draw", (1,)), ("call", "b", "log", ("a",)), ("call", "c", "ping", ()),
                       ("call", "d", "draw", ("b",)))
        self.assertEqual([told("draw", 0), told("", 0), told("", 1), told("draw", 1)],
                         [tie_of(plan, 4, name) for name in "abcd"])

    def test_answers_of_calls_that_are_not_live(self):
        plan = planned(("call", "a", "ping", ()), ("same", 1, 2), ("call", "b", "ping", ()),
                       ("call", "c", "draw", ("b",)), ("call", "d", "fix", ("c",)))
        self.assertEqual([told("", 0), told("", -1), told("draw", -1), ask("fix", told("draw", -1))],
                         [tie_of(plan, 5, name) for name in "abcd"])

    def test_calls_that_are_not_live_among_the_kept_items_are_not_counted(self):
        kept = [("call", "a", "draw", (1,)), ("unlike", 3, 3), ("call", "b", "draw", (1,))]
        plan = planned(("call", "c", "draw", (2,)), ("use",), ("call", "d", "draw", (2,)), kept=kept)
        self.assertEqual([told("draw", 0), told("draw", -1), told("draw", 1), told("draw", -1)],
                         [tie_of(plan, 6, name) for name in "abcd"])

    def test_kept_calls_come_before_the_main_ones(self):
        plan = planned(("call", "c", "log", (2,)), ("use",), ("call", "d", "log", ("b",)),
                       kept=[("call", "a", "log", (1,)), ("call", "b", "fix", ("a",))])
        self.assertEqual([told("", 0), ask("fix", told("", 0)), told("", 1), told("", 2)],
                         [tie_of(plan, 5, name) for name in "abcd"])


class Conditions(unittest.TestCase):
    def test_no_conditions(self):
        self.assertEqual([], conditions(planned(), 0))
        self.assertEqual([[], [], []], [conditions(planned(W, T), place) for place in range(3)])

    def test_those_of_the_items_ahead_in_order(self):
        plan = planned(W, ("same", ("w", "cost"), BIG), T, ("unlike", ("t", "near"), ("w", "town")),
                       ("same", ("w", "cost"), BIG))
        first = ("same", cell("w", "cost"), number(BIG))
        second = ("unlike", look("town", "near", cell("t", "id")), cell("w", "town"))
        self.assertEqual([[], [], [first], [first], [first, second], [first, second, first]],
                         [conditions(plan, place) for place in range(6)])

    def test_kept_items(self):
        plan = planned(("same", 1, 1), ("use",), ("same", 2, 2), kept=[W, ("unlike", ("w", "cost"), 0)])
        kept = ("unlike", cell("w", "cost"), number(0))
        one, two = [("same", number(value), number(value)) for value in [1, 2]]
        self.assertEqual([[], [], [], [one], [one, kept], [one, kept, two]],
                         [conditions(plan, place) for place in range(6)])

    def test_each_list_is_new(self):
        plan = planned(("same", 1, 1))
        conditions(plan, 1).clear()
        self.assertEqual(1, len(conditions(plan, 1)))


class InnerTies(unittest.TestCase):
    def test_ties_without_others_in_them(self):
        for tie in [number(3), cell("w", "cost"), told("", -1)]:
            self.assertEqual([tie], inner_ties(tie))

    def test_each_once_and_ascending(self):
        inner = look("town", "near", cell("t", "id"))
        tie = ask("add", inner, ask("add", number(BIG), inner))
        expected = [ask("add", number(BIG), inner), tie, cell("t", "id"), number(BIG), inner]
        self.assertEqual(sorted(expected), inner_ties(tie))

    def test_a_tie_of_no_arguments(self):
        self.assertEqual([ask("const")], inner_ties(ask("const")))

    def test_a_tie_that_is_written_out_thousands_of_parts_long(self):
        tie = number(1)
        for _ in range(9):
            tie = ask("mix", tie, tie, tie)
        self.assertEqual(10, len(inner_ties(tie)))

    def test_loops(self):
        self.assertEqual([], loops_in(ask("add", number(1), told("", 0))))
        self.assertEqual(["a"], loops_in(cell("a", "id")))
        tie = ask("add", look("town", "near", cell("t", "id")), ask("add", cell("a", "id"), cell("t", "land")))
        self.assertEqual(["a", "t"], loops_in(tie))
        for loop in "gcxe":
            tie = ask("add", tie, cell(loop, "cost"))
        self.assertEqual(["a", "c", "e", "g", "t", "x"], loops_in(tie))


if __name__ == "__main__":
    unittest.main()
