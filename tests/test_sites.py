"""Live sites, streams, and plans that are loose, hidden or plain [60]."""

import random
import unittest

from lands import planned
from plainties import PlainClasses, PlainTies
from plancalls.plans import Plan
from plancalls.schemas import Schema
from plancalls.sites import hidden, is_plain, loose, marks_wanted, sites, streams
from richly import rich_plan, rich_schema

W, V, T, U = ("each", "w", "ware"), ("each", "v", "ware"), ("each", "t", "town"), ("each", "u", "town")
PING, SETTLED = ("call", "x", "ping", ()), ("same", ("w", "town"), ("t", "id"))


class Sites(unittest.TestCase):
    def test_the_end_alone(self):
        self.assertEqual([(".", 0, 0)], sites(planned()))
        self.assertEqual([(".", 0, 3)], sites(planned(W, ("call", "x", "fix", (1,)), ("call", "y", "now", ("x",)))))

    def test_streams_are_counted_on_their_own(self):
        plan = planned(("call", "a", "draw", (1,)), PING, ("call", "b", "log", (1,)), ("call", "c", "draw", (1,)), W)
        self.assertEqual([("draw", 0, 0), ("", 0, 1), ("", 1, 2), ("draw", 1, 3), (".", 0, 5)], sites(plan))

    def test_two_changing_functions(self):
        schema = Schema({}, {"one": (0, "changing"), "two": (0, "changing")})
        plan = Plan(schema, [("call", "a", "two", ()), ("call", "b", "one", ()), ("call", "c", "two", ())])
        self.assertEqual([("two", 0, 0), ("one", 0, 1), ("two", 1, 2), (".", 0, 3)], sites(plan))

    def test_conditions_that_clash(self):
        plan = planned(PING, ("same", 1, 2), ("call", "y", "ping", ()))
        self.assertEqual([("", 0, 0)], sites(plan))
        self.assertEqual([("", 0, 0)], sites(planned(PING, ("unlike", "x", "x"))))
        self.assertEqual([], sites(planned(("unlike", 1, 1), PING)))

    def test_kept_calls(self):
        kept = [PING, ("same", 1, 2), ("call", "y", "ping", ())]
        plan = planned(("call", "a", "ping", ()), ("use",), ("call", "b", "ping", ()), kept=kept)
        self.assertEqual([("", 0, 0), ("", 1, 3)], sites(plan))
        plan = planned(("call", "a", "ping", ()), ("use",), ("call", "b", "ping", ()), kept=kept[:1])
        self.assertEqual([("", 0, 0), ("", 1, 1), ("", 2, 3), (".", 0, 4)], sites(plan))

    def test_each_list_is_new(self):
        plan = planned()
        sites(plan).clear()
        self.assertEqual([(".", 0, 0)], sites(plan))


class Streams(unittest.TestCase):
    def test_all_functions_of_the_schema(self):
        self.assertEqual(["", ".", "draw"], streams(planned()))

    def test_kinds(self):
        functions = {"a": (0, "fixed"), "b": (0, "stable"), "c": (0, "changing"), "d": (0, "changing")}
        schema = Schema({}, functions)
        self.assertEqual([".", "c", "d"], streams(Plan(schema, [])))
        self.assertEqual([["."], ["", "."], ["", ".", "c"]],
                         [streams(Plan(schema.with_kinds({"c": kind, "d": other}), []))
                          for kind, other in [("fixed", "stable"), ("effect", "effect"), ("changing", "effect")]])


class Loose(unittest.TestCase):
    def test_plans_that_are_not_loose(self):
        kept = [T, ("call", "x", "fix", (1,)), ("call", "y", "now", (1,))]
        for plan in [planned(), planned(PING), planned(("use",), ("call", "z", "ping", ()), kept=kept)]:
            self.assertIsNone(loose(plan))

    def test_the_first_kept_call(self):
        kept = [T, ("call", "x", "fix", (1,)), ("call", "y", "draw", (1,)), ("call", "z", "log", (1,))]
        self.assertEqual(2, loose(planned(("use",), kept=kept)))
        self.assertEqual(2, loose(planned(("use",), kept=kept[:2] + kept[3:])))
        self.assertEqual(0, loose(planned(("use",), kept=[PING])))

    def test_kept_calls_that_are_not_live_are_loose_all_the_same(self):
        self.assertEqual(1, loose(planned(("use",), kept=[("same", 1, 2), PING])))


class HiddenAndPlain(unittest.TestCase):
    def check(self, expected, plan):
        self.assertEqual(expected, hidden(plan))
        self.assertIs(expected is None and loose(plan) is None, is_plain(plan))

    def test_no_loops(self):
        self.check(None, planned())
        self.check(None, planned(PING))

    def test_all_loops_marked_and_none(self):
        self.check(None, planned(W, T, PING, marks=["t", "w"]))
        self.check((2, "w"), planned(W, T, PING))
        self.check((2, "t"), planned(W, T, PING, marks=["w"]))
        self.check((2, "w"), planned(W, T, PING, marks=["t"]))

    def test_the_first_loop_in_the_order_in_which_they_are_open(self):
        self.check((2, "w"), planned(W, T))
        self.check((2, "t"), planned(T, W))

    def test_the_first_live_site(self):
        self.check((1, "w"), planned(W, PING, T, marks=["t"]))
        self.check((3, "t"), planned(W, PING, T, marks=["w"]))
        self.check(None, planned(W, PING, ("same", 1, 2), T, ("call", "y", "ping", ()), marks=["w"]))
        self.check((4, "t"), planned(W, ("call", "y", "fix", (1,)), T, ("call", "z", "now", (1,)), marks=["w"]))

    def test_loops_that_marked_ones_settle(self):
        self.check(None, planned(W, T, SETTLED, marks=["w"]))
        self.check((3, "w"), planned(W, T, SETTLED, marks=["t"]))
        self.check((2, "t"), planned(W, T, PING, SETTLED, marks=["w"]))
        self.check(None, planned(T, ("same", ("t", "id"), 3), PING))

    def test_loops_that_references_and_answers_settle(self):
        self.check(None, planned(W, U, T, ("same", ("u", "id"), ("w", "town")), ("same", ("t", "id"), ("u", "near")),
                                 marks=["w"]))
        self.check(None, planned(W, ("call", "x", "draw", (1,)), T, ("same", ("t", "id"), "x"), marks=["w"]))
        self.check((1, "w"), planned(W, ("call", "x", "draw", (1,)), T, ("same", ("t", "id"), "x"), marks=["t"]))

    def test_loops_that_unmarked_ones_settle(self):
        plan = planned(T, U, ("same", ("t", "near"), ("u", "id")), ("same", ("u", "near"), ("t", "id")))
        self.check((4, "t"), plan)
        self.check(None, plan.with_marks(["t"]))
        self.check(None, plan.with_marks(["u"]))

    def test_kept_loops(self):
        plan = planned(W, ("use",), SETTLED, kept=[T])
        self.check((4, "w"), plan)
        self.check(None, plan.with_marks(["w"]))
        self.check((2, "w"), plan.with_items([W, PING, ("use",), SETTLED]))

    def test_loose_plans_may_be_hidden_too(self):
        plan = planned(("use",), kept=[T, PING])
        self.check((1, "t"), plan)
        self.assertEqual(1, loose(plan))
        self.check(None, plan.with_marks(["t"]))


class MarksWanted(unittest.TestCase):
    def test_none_some_and_all(self):
        self.assertEqual([], marks_wanted(planned()))
        self.assertEqual([], marks_wanted(planned(T, ("same", ("t", "id"), 1))))
        self.assertEqual(["w"], marks_wanted(planned(T, W, SETTLED)))
        self.assertEqual(["t", "v", "w"], marks_wanted(planned(W, V, T)))

    def test_the_least_of_several_least_sets(self):
        self.assertEqual(["t"], marks_wanted(planned(U, T, ("same", ("t", "id"), ("u", "id")))))
        self.assertEqual(["t"], marks_wanted(planned(U, T, ("same", ("t", "id"), ("u", "id")), marks=["u"])))

    def test_fewer_loops_are_less(self):
        # z settles t and u; these two settle z together.
        plan = planned(("each", "z", "land"), T, U, ("call", "x", "fix", (("z", "id"),)), ("same", ("t", "id"), "x"),
                       ("call", "y", "now", (("z", "id"),)), ("same", ("u", "id"), "y"),
                       ("call", "a", "add", (("t", "id"), ("u", "id"))), ("same", "a", ("z", "id")))
        self.assertEqual(["z"], marks_wanted(plan))
        self.assertEqual([None, None], [hidden(plan.with_marks(marks)) for marks in [["z"], ["t", "u"]]])
        self.assertEqual(["t", "u", "z"], marks_wanted(plan.with_items(plan.main_items()[:3])))

    def test_every_live_site_counts(self):
        self.assertEqual(["t", "w"], marks_wanted(planned(T, W, PING, SETTLED)))
        self.assertEqual(["w"], marks_wanted(planned(T, W, ("call", "x", "fix", (1,)), SETTLED)))
        self.assertEqual([], marks_wanted(planned(T, W, ("same", 1, 2), PING)))

    def test_by_the_definitions(self):
        chance = random.Random(60)
        kinds = []
        for _ in range(150):
            plan = rich_plan(chance, rich_schema(chance))
            ties = PlainTies(plan)
            live = sorted(ties.sites, key=lambda site: site[2])
            self.assertEqual(live, sites(plan))
            expected = next(iter([(place, loop) for _, _, place in live for loop in plan.open_at(place)
                                  if not self.settled(ties, place, loop, plan.marks())]), None)
            self.assertEqual(expected, hidden(plan))
            wanted = marks_wanted(plan)
            self.assertIsNone(hidden(plan.with_marks(wanted)))
            for loop in wanted:
                self.assertIsNotNone(hidden(plan.with_marks([name for name in wanted if name != loop])))
            kinds.append(expected is None)
        self.assertEqual({True, False}, set(kinds))

    def settled(self, ties, place, loop, marks):
        marked = [name for name in ties.plan.open_at(place) if name in marks]
        return ties.settled(PlainClasses(ties, place, []), place, loop, marked)


if __name__ == "__main__":
    unittest.main()
