"""Which ties occur at a place, their classes, and what the conditions entail [2] [51]."""

import unittest

from lands import BIG, CHAIN, ask, cell, look, number, planned, told
from plancalls.closures import Closure
from plancalls.plans import Plan
from plancalls.schemas import Schema

W, V, T, U = ("each", "w", "ware"), ("each", "v", "ware"), ("each", "t", "town"), ("each", "u", "town")


def at_end(*items, more=(), **rest):
    """Return the Closure at the end of a plan of these items."""
    plan = planned(*items, **rest)
    return Closure(plan, len(plan.steps()), more=more)


class ClosureCase(unittest.TestCase):
    def assert_holds(self, *things):
        for thing in things:
            self.assertIs(True, thing)

    def assert_holds_not(self, *things):
        for thing in things:
            self.assertIs(False, thing)


class Occurring(ClosureCase):
    def test_nothing_occurs(self):
        self.assertEqual([], at_end().classes())
        self.assertEqual([], at_end(W).classes())

    def test_keys_of_open_loops_occur_and_nothing_else_of_them(self):
        self.assertEqual([[cell("t", "id")], [cell("u", "id")]], at_end(T, U).classes())

    def test_inner_ties_occur(self):
        closure = at_end(T, ("same", ("t", "near"), BIG))
        self.assertEqual([[cell("t", "id")], [number(BIG), look("town", "near", cell("t", "id"))]], closure.classes())

    def test_made_columns_of_a_loop_without_a_key(self):
        both = ask("add", cell("w", "net"), cell("w", "town"))
        expected = [[both, cell("w", "all")], [ask("fix", cell("w", "cost")), cell("w", "net")], [cell("w", "cost")],
                    [cell("w", "town")], [number(5)]]
        self.assertEqual(sorted(expected), at_end(W, ("unlike", ("w", "all"), 5)).classes())

    def test_made_columns_of_made_columns_of_a_row_that_is_had(self):
        closure = at_end(("each", "g", "goods"), ("same", ("g", "top"), ("g", "top")), schema=CHAIN)
        key = cell("g", "id")
        low, mid, top = [look("goods", column, key) for column in ["low", "mid", "top"]]
        self.assertEqual(sorted([[key], [low], [ask("inc", low), mid], [ask("mix", mid, key, low), top]]),
                         closure.classes())

    def test_a_made_column_of_no_arguments(self):
        closure = at_end(("each", "g", "goods"), ("same", ("g", "flat"), ("g", "flat")), schema=CHAIN)
        self.assertEqual([[ask("const"), look("goods", "flat", cell("g", "id"))], [cell("g", "id")]],
                         closure.classes())

    def test_a_made_column_of_a_row_that_is_had_by_a_reference_alone(self):
        tie = look("goods", "mid", cell("s", "good"))
        closure = at_end(("each", "s", "sale"), schema=CHAIN, more=[("unlike", tie, number(1))])
        self.assertIn(sorted([tie, ask("inc", look("goods", "low", cell("s", "good")))]), closure.classes())
        # Nothing tells that there is a row of goods with this key.
        more = [("unlike", look("goods", "mid", cell("s", "sum")), number(1))]
        closure = at_end(("each", "s", "sale"), schema=CHAIN, more=more)
        self.assertEqual(3, len(closure.classes()))

    def test_each_class_and_all_of_them_ascend_and_are_new(self):
        closure = at_end(T, U, ("same", ("u", "id"), 7), ("same", ("t", "near"), ("u", "id")))
        expected = [[cell("t", "id")], [cell("u", "id"), number(7), look("town", "near", cell("t", "id"))]]
        found = closure.classes()
        self.assertEqual(expected, found)
        found[1].clear()
        found.clear()
        self.assertEqual(expected, closure.classes())

    def test_queries_put_nothing_in(self):
        closure = at_end(T)
        closure.same(number(1), number(2))
        closure.unlike(cell("t", "id"), number(2))
        closure.had("town", look("town", "near", cell("t", "id")))
        self.assertEqual([[cell("t", "id")]], closure.classes())
        self.assertEqual([[cell("t", "id")]], at_end(T, W).classes())


class Rows(ClosureCase):
    def test_rows_of_open_loops(self):
        closure = at_end(T)
        self.assert_holds(closure.had("town", cell("t", "id")))
        self.assert_holds_not(closure.had("land", cell("t", "id")), closure.had("town", number(1)))

    def test_rows_to_which_cells_lead(self):
        closure = at_end(W)
        self.assert_holds(closure.had("town", cell("w", "town")))
        self.assert_holds_not(closure.had("town", cell("w", "cost")), closure.had("mayor", cell("w", "town")))

    def test_references_that_lead_one_after_another_in_a_ring(self):
        closure = at_end(T)
        land = look("town", "land", cell("t", "id"))
        mayor = look("land", "head", land)
        town = look("mayor", "town", mayor)
        self.assert_holds(closure.had("land", land), closure.had("mayor", mayor), closure.had("town", town),
                          closure.had("land", look("town", "land", town)))
        self.assert_holds_not(closure.had("town", land), closure.had("mayor", look("land", "head", town)))

    def test_a_table_that_leads_to_itself(self):
        near = look("town", "near", look("town", "near", cell("w", "town")))
        self.assert_holds(at_end(W).had("town", near))

    def test_a_reference_from_a_key_and_two_from_one_column(self):
        closure = at_end(("each", "p", "part"))
        two = look("part", "two", cell("p", "id"))
        self.assert_holds(closure.had("part", cell("p", "id")), closure.had("town", cell("p", "id")),
                          closure.had("land", two), closure.had("mayor", two),
                          closure.had("town", look("mayor", "town", two)))
        self.assert_holds_not(closure.had("town", two), closure.had("part", two))

    def test_keys_lead_on_for_every_tie_of_the_class(self):
        closure = at_end(("each", "p", "part"), W, ("same", ("p", "id"), ("w", "cost")))
        self.assert_holds(closure.had("town", cell("w", "cost")), closure.had("part", cell("w", "cost")))
        more = [("same", cell("w", "cost"), number(4))]
        self.assert_holds(at_end(W, ("each", "p", "part"), ("same", 4, ("p", "id")), more=more).had("town", number(4)))

    def test_rows_that_come_by_equality(self):
        plan = [W, V, ("same", ("w", "town"), ("v", "cost"))]
        self.assert_holds(at_end(*plan).had("town", cell("v", "cost")))
        self.assert_holds(at_end(*plan).had("town", look("town", "near", cell("v", "cost"))))

    def test_had_as_a_claim(self):
        self.assert_holds(at_end(T).entails(("had", "town", cell("t", "id"))))
        self.assert_holds_not(at_end(T).entails(("had", "land", cell("t", "id"))))


class Equality(ClosureCase):
    def test_equal_and_unlike_ties(self):
        closure = at_end(W, V, ("same", ("w", "cost"), ("v", "cost")), ("unlike", ("v", "cost"), ("w", "town")))
        one, other, third = cell("w", "cost"), cell("v", "cost"), cell("w", "town")
        self.assert_holds(closure.same(one, other), closure.same(one, one), closure.unlike(third, one),
                          closure.unlike(other, third))
        self.assert_holds_not(closure.same(one, third), closure.unlike(one, other),
                              closure.same(one, cell("v", "town")), closure.unlike(one, cell("v", "town")))

    def test_integers(self):
        closure = at_end(W, ("same", ("w", "cost"), -BIG))
        self.assert_holds(closure.unlike(number(1), number(2)), closure.same(number(BIG), number(BIG)),
                          closure.same(cell("w", "cost"), number(-BIG)), closure.unlike(cell("w", "cost"), number(BIG)))
        self.assert_holds_not(closure.same(number(1), number(2)), closure.unlike(number(1), number(1)))

    def test_by_way_of_arguments(self):
        closure = at_end(W, V, ("same", ("w", "cost"), ("v", "cost")))
        self.assert_holds(closure.same(ask("now", cell("w", "cost")), ask("now", cell("v", "cost"))),
                          closure.same(cell("w", "net"), cell("v", "net")),
                          closure.same(ask("add", number(1), ask("now", cell("w", "cost"))),
                                       ask("add", number(1), ask("now", cell("v", "cost")))))
        self.assert_holds_not(closure.same(ask("now", cell("w", "cost")), ask("fix", cell("w", "cost"))),
                              closure.same(ask("add", number(1), cell("w", "cost")),
                                           ask("add", cell("w", "cost"), number(1))),
                              closure.same(cell("w", "all"), cell("v", "all")))

    def test_by_way_of_rows(self):
        closure = at_end(W, T, ("same", ("w", "town"), ("t", "id")))
        self.assert_holds(closure.same(look("town", "near", cell("w", "town")), look("town", "near", cell("t", "id"))))
        self.assert_holds_not(closure.same(look("town", "near", cell("w", "town")),
                                           look("town", "land", cell("t", "id"))))

    def test_looks_of_rows_that_are_not_had(self):
        closure = at_end(W, V, ("same", ("w", "cost"), ("v", "cost")))
        nears = [look("town", "near", cell(loop, "cost")) for loop in "wv"]
        self.assert_holds(closure.same(nears[0], nears[1]))

    def test_made_columns(self):
        closure = at_end(W)
        self.assert_holds(closure.same(cell("w", "net"), ask("fix", cell("w", "cost"))),
                          closure.same(cell("w", "all"), ask("add", ask("fix", cell("w", "cost")), cell("w", "town"))))
        closure = at_end(("each", "p", "part"))
        self.assert_holds(closure.same(look("part", "sum", cell("p", "id")), ask("fix", cell("p", "id"))))
        # The row of this key is not had: nothing tells what its made column is.
        self.assert_holds_not(closure.same(look("part", "sum", number(1)), ask("fix", number(1))))

    def test_a_function_of_a_made_column_that_an_item_calls(self):
        closure = at_end(W, ("call", "x", "fix", (("w", "cost"),)), ("same", "x", 9))
        self.assert_holds(closure.same(cell("w", "net"), number(9)))

    def test_unlike_by_what_the_equality_would_bring(self):
        closure = at_end(W, V, ("unlike", ("w", "net"), ("v", "net")))
        self.assert_holds(closure.unlike(cell("w", "cost"), cell("v", "cost")))
        self.assert_holds_not(closure.unlike(cell("w", "town"), cell("v", "town")))

    def test_answers_of_sites_are_ties_like_others(self):
        items = [("call", "x", "draw", (1,)), ("call", "y", "draw", (1,)), ("same", "x", 3)]
        closure = at_end(*items)
        self.assert_holds(closure.same(told("draw", 0), number(3)), closure.same(told("", 9), told("", 9)))
        self.assert_holds_not(closure.same(told("draw", 0), told("draw", 1)), closure.same(told("", -1), number(3)))

    def test_entails_is_same_and_unlike(self):
        closure = at_end(W, ("same", ("w", "cost"), 1))
        self.assert_holds(closure.entails(("same", cell("w", "cost"), number(1))),
                          closure.entails(("unlike", cell("w", "cost"), number(2))))
        self.assert_holds_not(closure.entails(("same", cell("w", "cost"), number(2))),
                              closure.entails(("unlike", cell("w", "cost"), number(1))))


class Clashes(ClosureCase):
    CLASHING = [
        [("same", 1, 2)],
        [("unlike", 0, 0)],
        [W, ("same", ("w", "cost"), BIG), ("same", ("w", "cost"), -BIG)],
        [W, V, ("same", ("w", "cost"), ("v", "cost")), ("unlike", ("v", "cost"), ("w", "cost"))],
        [W, V, ("same", ("w", "cost"), ("v", "cost")), ("unlike", ("v", "net"), ("w", "net"))],
        [T, U, ("same", ("t", "id"), ("u", "id")), ("unlike", ("t", "near"), ("u", "near"))],
        [T, U, ("same", ("t", "near"), 1), ("same", ("u", "near"), 2), ("same", ("u", "id"), ("t", "id"))],
        [W, ("call", "x", "now", (1,)), ("same", ("w", "cost"), 1), ("call", "y", "now", (("w", "cost"),)),
         ("unlike", "x", "y")],
        [W, ("call", "x", "fix", (("w", "cost"),)), ("unlike", "x", ("w", "net"))],
        [W, ("call", "x", "fix", (("w", "cost"),)), ("call", "y", "add", ("x", ("w", "town"))),
         ("unlike", ("w", "all"), "y")],
    ]
    FREE = [
        [], [W], [("same", 1, 1)], [("unlike", 1, 2)],
        [T, U, ("unlike", ("t", "id"), ("u", "id")), ("same", ("t", "near"), ("u", "near"))],
        [("call", "x", "ping", ()), ("call", "y", "ping", ()), ("unlike", "x", "y")],
        [("call", "x", "fix", (1,)), ("call", "y", "fix", (2,)), ("same", "x", "y")],
    ]

    def test_conditions_that_clash(self):
        for items in self.CLASHING:
            closure = at_end(*items)
            self.assert_holds(closure.clashes(), closure.same(number(1), number(2)),
                              closure.unlike(number(1), number(1)), closure.had("land", number(1)),
                              closure.entails(("had", "land", number(1))),
                              closure.entails(("same", number(1), number(2))))

    def test_conditions_that_do_not_clash(self):
        for items in self.FREE:
            closure = at_end(*items)
            self.assert_holds_not(closure.clashes(), closure.same(number(1), number(2)),
                                  closure.unlike(number(1), number(1)), closure.had("land", number(1)))

    def test_classes_where_conditions_clash(self):
        self.assertEqual([[number(1), number(2)]], at_end(("same", 1, 2)).classes())
        self.assertEqual([[number(1)]], at_end(("unlike", 1, 1)).classes())

    def test_the_place_decides(self):
        plan = planned(("same", 1, 2), W)
        self.assertEqual([False, True, True], [Closure(plan, place).clashes() for place in range(3)])

    def test_kept_items_clash_behind_their_use_alone(self):
        plan = planned(W, ("use",), V, kept=[("same", 1, 2), T])
        self.assertEqual([False, True, False, False, True, True],
                         [Closure(plan, place).clashes() for place in range(6)])
        self.assertEqual([[], [[number(1), number(2)]]], [Closure(plan, place).classes() for place in [2, 1]])

    def test_rows_of_kept_loops(self):
        plan = planned(W, ("use",), V, kept=[T, ("same", ("t", "near"), 3)])
        near = sorted([number(3), look("town", "near", cell("t", "id"))])
        self.assertEqual([[], [[cell("t", "id")]], [], [], [[cell("t", "id")], near], [[cell("t", "id")], near]],
                         [Closure(plan, place).classes() for place in range(6)])
        self.assert_holds(Closure(plan, 1).had("town", cell("t", "id")), Closure(plan, 4).had("town", number(3)))
        self.assert_holds_not(Closure(plan, 3).had("town", number(3)))


class More(ClosureCase):
    def test_further_conditions(self):
        more = [("same", cell("w", "cost"), number(1)), ("unlike", cell("w", "town"), number(2))]
        closure = at_end(W, more=more)
        self.assert_holds(closure.same(cell("w", "cost"), number(1)), closure.unlike(number(2), cell("w", "town")))
        self.assertIn([cell("w", "town")], closure.classes())
        self.assert_holds_not(closure.clashes(), at_end(W, more=[]).same(cell("w", "cost"), number(1)))

    def test_further_conditions_that_clash(self):
        plan = [W, ("same", ("w", "cost"), 1)]
        self.assert_holds(at_end(*plan, more=[("unlike", number(1), cell("w", "cost"))]).clashes(),
                          at_end(more=[("same", number(1), number(2))]).clashes())

    def test_further_conditions_are_copied(self):
        more = [("same", cell("w", "cost"), number(1))]
        closure = at_end(W, more=more)
        more.clear()
        self.assert_holds(closure.same(cell("w", "cost"), number(1)))

    def test_what_was_returned_may_be_passed_in(self):
        plan = planned(W, T, ("same", ("w", "town"), ("t", "id")))
        classes = Closure(plan, 3).classes()
        again = Closure(plan, 2, more=[("same", one[0], tie) for one in classes for tie in one])
        self.assertEqual(classes, again.classes())


class Large(ClosureCase):
    def test_the_largest_schema_and_plan(self):
        columns, tables = ["a", "b", "c", "d", "e"], ["ta", "tb", "tc", "td", "te", "tf"]
        functions = {"f": (3, "fixed"), "g": (3, "fixed"), "h": (3, "stable"), "i": (2, "changing"),
                     "j": (1, "effect"), "k": (0, "effect")}
        references = [(one, column, other) for one in tables for column in "abc" for other in tables]
        made = [(table, "d", "f", ("a", "b", "c")) for table in tables]
        made += [(table, "e", "g", ("d", "d", "a")) for table in tables]
        schema = Schema({table: columns for table in tables}, functions, keys={table: "a" for table in tables},
                        references=references, made=made)
        items = [("each", loop, table) for loop, table in zip("pqrs", tables)]
        items += [("same", ("p", "b"), ("q", "c")), ("same", ("q", "b"), ("r", "c")),
                  ("call", "x", "h", (("p", "d"),) * 3), ("same", ("r", "b"), ("s", "c")),
                  ("call", "y", "i", ("x", ("s", "e"))), ("unlike", "y", ("p", "e"))]
        closure = Closure(Plan(schema, items), 10)
        self.assert_holds(closure.had("tf", look("tb", "c", cell("q", "a"))),
                          closure.same(look("ta", "e", look("ta", "b", cell("p", "a"))),
                                       look("ta", "e", look("tb", "c", cell("q", "a")))))
        self.assert_holds_not(closure.clashes())

    def test_answers_of_answers_of_answers(self):
        items = [("call", "x" + "abcdefgh"[at], "three", (("x" + "abcdefgh"[at - 1],) if at else (1,)) * 3)
                 for at in range(8)]
        items += [("same", "xh", "xg"), ("same", "xf", 5)]
        schema = Schema({}, {"three": (3, "fixed")})
        closure = Closure(Plan(schema, items), 10)
        self.assert_holds(closure.same(ask("three", number(5), number(5), number(5)), ask("three", *[number(5)] * 3)))
        self.assertEqual(8, len(closure.classes()))


class Names(ClosureCase):
    def test_a_table_a_column_and_a_loop_of_one_name(self):
        schema = Schema({"a": ["a", "b"]}, {"a": (1, "fixed")}, keys={"a": "a"}, references=[("a", "b", "a")])
        plan = Plan(schema, [("each", "a", "a"), ("call", "b", "a", (("a", "b"),)), ("same", "b", ("a", "a"))])
        key = cell("a", "a")
        self.assertEqual([[ask("a", look("a", "b", key)), key], [look("a", "b", key)]], Closure(plan, 3).classes())
        self.assert_holds(Closure(plan, 3).had("a", ask("a", look("a", "b", key))))


if __name__ == "__main__":
    unittest.main()
