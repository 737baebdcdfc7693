"""Cases in which a place is reached, and in which a claim is not true [5] [53]."""

import random
import unittest

from claims import answers_of_sites, check_case, check_sizes, some_claim, some_ties
from lands import BIG, CHAIN, ask, cell, look, number, planned, told
from plainties import PlainClasses, PlainTies, entailed
from plancalls.closures import Closure
from plancalls.ground import is_ground, is_ground_by, is_settled, order_keys, written
from plancalls.models import counter_case, reaching_case
from plancalls.plans import Plan
from plancalls.schemas import Schema
from plancalls.ties import conditions, loops_in, tie_of
from reached import Reached
from richly import rich_contents, rich_functions, rich_plan, rich_schema

W, V, T, U = ("each", "w", "ware"), ("each", "v", "ware"), ("each", "t", "town"), ("each", "u", "town")


# Made columns that stand ahead of those that they are made of.
AHEAD = Schema({"sums": ["top", "mid", "low", "id"], "part": ["all", "to"]},
               {"inc": (1, "fixed"), "log": (0, "effect")}, keys={"sums": "id"}, references=[("part", "to", "sums")],
               made=[("sums", "top", "inc", ("mid",)), ("sums", "mid", "inc", ("low",)),
                     ("part", "all", "inc", ("to",))])


class ModelCase(unittest.TestCase):
    def assert_reached(self, plan, place=None):
        """Check the case that reaches a place, the end if none is told, and return it."""
        place = len(plan.steps()) if place is None else place
        found = reaching_case(plan, place)
        check_case(self, plan, place, found)
        check_sizes(self, plan, place, PlainClasses(PlainTies(plan), place, []), found[0][0])
        return found

    def assert_refuted(self, plan, claim, place=None):
        """Check the case in which a claim is not true, and return it."""
        place = len(plan.steps()) if place is None else place
        ties = PlainTies(plan)
        found = counter_case(plan, place, claim)
        run, answers = check_case(self, plan, place, found)
        self.assertIs(False, run.is_true(claim, found[1], answers, answers_of_sites(ties)))
        more = [("same", *claim[1:])] if claim[0] == "unlike" else []
        added = claim[2:] if claim[0] == "had" else claim[1:]
        check_sizes(self, plan, place, PlainClasses(ties, place, more, added), found[0][0])
        return found


class Reaching(ModelCase):
    PLANS = [
        planned(),
        planned(W), planned(W, V, T, U),
        planned(W, T, ("same", ("w", "town"), ("t", "near")), ("unlike", ("w", "town"), ("t", "id"))),
        planned(W, ("same", ("w", "net"), BIG), ("same", ("w", "all"), -BIG)),
        planned(("each", "p", "part"), ("each", "q", "part"), ("unlike", ("p", "sum"), ("q", "sum"))),
        planned(("each", "p", "part"), ("same", ("p", "two"), ("p", "id")), ("same", ("p", "sum"), ("p", "id"))),
        planned(T, ("same", ("t", "near"), ("t", "land")), U, ("same", ("u", "id"), ("t", "land"))),
        planned(W, ("call", "x", "fix", (("w", "cost"),)), ("unlike", "x", 3), ("same", ("w", "net"), ("w", "town"))),
        planned(("each", "g", "goods"), ("same", ("g", "top"), ("g", "low")), ("same", ("g", "flat"), 4), schema=CHAIN),
        planned(("each", "s", "sale"), ("each", "g", "goods"), ("same", ("s", "good"), ("g", "id")),
                ("unlike", ("s", "sum"), ("g", "mid")), schema=CHAIN),
        planned(("each", "n", "note"), ("each", "m", "mayor"), ("same", ("n", "who"), ("m", "id"))),
        planned(("each", "s", "sums"), ("each", "p", "part"), schema=AHEAD),
        planned(("each", "s", "sums"), ("same", ("s", "low"), 3), ("each", "p", "part"), ("same", ("p", "all"), 3),
                schema=AHEAD),
        planned(("each", "s", "sums"), ("same", ("s", "mid"), ("s", "id")), ("unlike", ("s", "top"), 0), schema=AHEAD),
    ]

    def test_every_place_of_some_plans(self):
        for plan in self.PLANS:
            for place in range(len(plan.steps()) + 1):
                self.assert_reached(plan, place)

    def test_no_open_loops(self):
        for plan in [planned(), planned(W), planned(("same", 1, 1), ("unlike", -BIG, BIG))]:
            self.assertEqual({}, self.assert_reached(plan, 0)[1])

    def test_few_rows(self):
        # References lead to rows that are there, where there are some.
        for plan, towns, lands in [(planned(T), 1, 1), (planned(W), 1, 1), (planned(("each", "n", "note")), 1, 1),
                                   (planned(T, U), 2, 1), (planned(T, ("each", "l", "land")), 1, 1)]:
            contents = self.assert_reached(plan)[0][0]
            self.assertEqual([towns, lands], [contents.size(table) for table in ["town", "land"]])

    def test_conditions_that_clash(self):
        plan = planned(W, ("same", ("w", "cost"), 1), ("same", ("w", "cost"), 2), ("call", "x", "ping", ()))
        self.assertEqual([None, None], [reaching_case(plan, place) for place in [3, 4]])
        self.assert_reached(plan, 2)

    def test_answers_of_changing_and_effect_functions_are_compared(self):
        plan = planned(("call", "a", "draw", (1,)), ("call", "b", "draw", (1,)), ("unlike", "a", "b"), W,
                       ("call", "c", "log", ("a",)), ("same", "c", ("w", "cost")), ("call", "d", "ping", ()),
                       ("same", "d", BIG), ("same", "b", -BIG))
        for place in range(10):
            self.assert_reached(plan, place)

    def test_calls_are_counted_over_rows_that_go_before(self):
        # There are two rows of the table, and the answers at the second one are compared.
        plan = planned(W, V, ("call", "a", "draw", (("v", "cost"),)), ("same", "a", ("w", "cost")),
                       ("unlike", ("w", "cost"), ("v", "cost")), ("call", "b", "log", ("a",)), ("same", "b", 7),
                       ("call", "c", "ping", ()), ("unlike", "c", "a"))
        for place in range(10):
            self.assert_reached(plan, place)

    def test_kept_items(self):
        kept = [T, ("call", "a", "draw", (("t", "id"),)), ("same", "a", ("t", "near")), ("unlike", "a", ("t", "id"))]
        plan = planned(W, ("call", "b", "draw", (0,)), ("use",), ("same", "b", "a"), ("same", ("w", "cost"), "b"),
                       ("call", "c", "log", ("a",)), ("same", "c", 5), kept=kept)
        for place in range(12):
            self.assert_reached(plan, place)

    def test_kept_items_that_clash(self):
        plan = planned(W, ("use",), ("call", "x", "ping", ()), kept=[("same", 1, 2), ("call", "y", "ping", ())])
        self.assertEqual([False, True, False, False, True, True],
                         [reaching_case(plan, place) is None for place in range(6)])

    def test_each_case_is_new(self):
        plan = planned(W)
        (_, functions), numbers = reaching_case(plan, 1)
        functions.clear()
        numbers.clear()
        self.assert_reached(plan)

    def test_the_largest_plan_over_the_largest_schema(self):
        columns, tables = ["a", "b", "c", "d", "e"], ["ta", "tb", "tc", "td", "te", "tf"]
        functions = {"f": (3, "fixed"), "g": (3, "fixed"), "h": (3, "stable"), "i": (2, "changing"),
                     "j": (1, "effect"), "k": (0, "effect")}
        made = [(table, "d", "f", ("a", "b", "c")) for table in tables]
        made += [(table, "e", "g", ("d", "d", "a")) for table in tables]
        schema = Schema({table: columns for table in tables}, functions, keys={table: "a" for table in tables},
                        references=[(one, column, other) for one in tables for column in "abc" for other in tables],
                        made=made)
        kept = [("each", "p", "ta"), ("each", "q", "ta"), ("unlike", ("p", "b"), ("q", "c"))]
        items = [("each", "r", "ta"), ("use",), ("each", "s", "ta"), ("call", "x", "i", (("p", "e"), ("q", "d"))),
                 ("unlike", "x", ("r", "e")), ("unlike", ("r", "b"), ("s", "c")), ("same", ("s", "e"), ("p", "d"))]
        plan = Plan(schema, items, kept=kept)
        self.assert_reached(plan)
        self.assert_refuted(plan, ("unlike", ("told", "i", 0), look("ta", "c", look("tb", "b", cell("p", "a")))))


class Countering(ModelCase):
    PLAN = planned(W, T, ("same", ("w", "town"), ("t", "id")), ("call", "a", "draw", (1,)), V, ("unlike", "a", 3))

    def test_claims_of_equality(self):
        for one, other in [(cell("w", "cost"), cell("w", "town")), (cell("w", "cost"), cell("v", "cost")),
                           (cell("w", "cost"), number(0)), (number(1), number(2)), (told("draw", 0), number(4)),
                           (look("town", "near", cell("t", "id")), cell("t", "id")),
                           (cell("w", "net"), cell("v", "net")),
                           (look("town", "near", cell("w", "town")), look("town", "near", cell("v", "town"))),
                           (ask("now", number(BIG)), ask("now", number(-BIG))),
                           (look("mayor", "town", look("land", "head", look("town", "land", cell("t", "id")))),
                            cell("t", "id"))]:
            self.assert_refuted(self.PLAN, ("same", one, other))
            self.assert_refuted(self.PLAN, ("unlike", one, one))

    def test_claims_that_ties_are_unlike(self):
        for one, other in [(cell("w", "cost"), cell("w", "town")), (cell("w", "town"), cell("v", "town")),
                           (look("town", "near", cell("t", "id")), cell("t", "id")), (told("draw", 0), number(BIG)),
                           (cell("w", "all"), number(0)), (ask("now", number(0)), told("draw", 0)),
                           (look("land", "head", look("town", "land", cell("v", "town"))), cell("t", "id"))]:
            self.assert_refuted(self.PLAN, ("unlike", one, other))

    def test_claims_of_rows(self):
        for table, tie in [("land", cell("t", "id")), ("town", cell("w", "cost")), ("town", number(3)),
                           ("mayor", told("draw", 0)), ("part", cell("w", "town")),
                           ("town", look("town", "land", cell("t", "id")))]:
            self.assert_refuted(self.PLAN, ("had", table, tie))

    def test_ties_of_rows_that_are_not_there(self):
        none = look("town", "near", cell("w", "cost"))
        for claim in [("same", none, number(1)), ("unlike", none, number(1)), ("had", "town", none),
                      ("same", ask("now", none), number(1)), ("unlike", ask("now", none), cell("w", "cost"))]:
            self.assert_refuted(self.PLAN, claim)

    def test_claims_that_are_entailed(self):
        key = cell("t", "id")
        for claim in [("same", key, key), ("same", cell("w", "town"), key), ("unlike", told("draw", 0), number(3)),
                      ("had", "town", cell("v", "town")), ("had", "land", look("town", "land", key)),
                      ("unlike", number(1), number(2)), ("same", cell("w", "net"), ask("fix", cell("w", "cost")))]:
            self.assertIsNone(counter_case(self.PLAN, 6, claim))

    def test_conditions_that_clash(self):
        plan = planned(W, ("same", 1, 2))
        for claim in [("same", number(1), number(2)), ("unlike", number(1), number(1)), ("had", "town", number(1))]:
            self.assertIsNone(counter_case(plan, 2, claim))
            self.assertIsNotNone(counter_case(plan, 1, claim))

    def test_answers_of_calls_behind_the_place(self):
        plan = planned(W, ("call", "a", "draw", (1,)), ("call", "b", "log", ("a",)), ("same", 1, 2),
                       ("call", "c", "log", ("a",)))
        for claim in [("same", told("", 0), number(1)), ("unlike", told("draw", 0), number(1)),
                      ("same", told("", -1), number(1)), ("unlike", told("", 1), number(1))]:
            for place in [1, 2]:
                self.assert_refuted(plan, claim, place)

    def test_a_row_that_only_the_key_of_another_table_leads_to(self):
        plan = planned(("each", "p", "part"), W)
        self.assert_refuted(plan, ("same", look("town", "near", cell("p", "id")), cell("p", "id")))
        self.assert_refuted(plan, ("had", "part", cell("w", "town")))

    def test_kept_places(self):
        plan = planned(W, ("use",), kept=[T, ("call", "a", "draw", (("t", "near"),)), ("same", "a", 3), U])
        key = cell("t", "id")
        for place in [1, 2, 3, 6]:
            self.assert_refuted(plan, ("same", key, look("town", "near", key)), place)
            self.assert_refuted(plan, ("unlike", key, number(BIG)), place)
        for place in [4, 5]:
            self.assert_refuted(plan, ("same", number(3), number(4)), place)


class Compared(ModelCase):
    """Many plans over many schemas: by the words of the definitions, and on contents."""

    def setUp(self):
        self.chance = random.Random(53)

    def test_what_is_entailed_is_true_and_what_is_not_is_refuted(self):
        counts = {True: 0, False: 0, "true": 0}
        for _ in range(120):
            schema = rich_schema(self.chance)
            plan = rich_plan(self.chance, schema)
            ties = PlainTies(plan)
            runs = []
            for _ in range(3):
                functions = rich_functions(self.chance, schema)
                runs.append(Reached(plan, rich_contents(self.chance, schema, functions), functions))
            for place in range(len(plan.steps()) + 1):
                pool = some_ties(self.chance, ties, place)
                closure = Closure(plan, place)
                if reaching_case(plan, place) is None:
                    self.assertTrue(closure.clashes())
                    self.assertEqual([[], [], []], [run.times[place] for run in runs])
                    continue
                self.assert_reached(plan, place)
                for _ in range(3):
                    claim = some_claim(self.chance, schema, pool)
                    found = closure.entails(claim)
                    self.assertIs(entailed(ties, place, [], claim), found)
                    counts[found] += 1
                    if found:
                        self.assertIsNone(counter_case(plan, place, claim))
                        counts["true"] += self.true_times(runs, place, claim, answers_of_sites(ties))
                    else:
                        self.assert_refuted(plan, claim, place)
        self.assertGreater(min(counts.values()), 200)

    def true_times(self, runs, place, claim, sites):
        """Check that a claim is true wherever it has values, and return how often this was."""
        times = 0
        for run in runs:
            for numbers, answers in run.times[place]:
                if run.has_values(claim, numbers, answers, sites):
                    self.assertIs(True, run.is_true(claim, numbers, answers, sites))
                    times += 1
        return times

    def test_ties_classes_and_ground(self):
        for _ in range(120):
            schema = rich_schema(self.chance)
            plan = rich_plan(self.chance, schema)
            ties = PlainTies(plan)
            for place in range(len(plan.steps()) + 1):
                classes = PlainClasses(ties, place, [])
                self.assertEqual(ties.conditions(place), conditions(plan, place))
                self.assertEqual([list(one) for one in classes.told()], Closure(plan, place).classes())
                self.assertIs(classes.clash(), Closure(plan, place).clashes())
                for item in plan.ahead(place):
                    if item[0] == "call":
                        self.assertEqual(ties.answers[item[1]], tie_of(plan, place, item[1]))
                self.check_ground(plan, ties, place)
                self.check_more(plan, ties, place)

    def check_ground(self, plan, ties, place):
        self.assertEqual(ties.order_keys(place), order_keys(plan, place))
        loops = [loop for loop in plan.open_at(place) if self.chance.random() < 0.5]
        for loop in plan.open_at(place):
            classes = PlainClasses(ties, place, [])
            self.assertIs(ties.settled(classes, place, loop, loops), is_settled(plan, place, loop, loops))
        for tie in self.chance.choices(some_ties(self.chance, ties, place), k=3):
            classes = PlainClasses(ties, place, [], [tie])
            expected = classes.is_ground(place, tie, [("loop", loop) for loop in loops])
            self.assertIs(expected, is_ground(plan, place, tie, loops))
            found = written(plan, place, tie, loops)
            self.assertIs(expected, found is not None)
            if expected:
                self.assertEqual([], [loop for loop in loops_in(found) if loop not in loops])
                both = PlainClasses(ties, place, [], [tie, found]).classes
                self.assertEqual(both[tie], both[found])
            rows = [ties.order_key(loop) for loop in loops]
            self.assertIs(classes.is_ground(place, tie, rows), is_ground_by(plan, place, tie, rows))

    def check_more(self, plan, ties, place):
        pool = some_ties(self.chance, ties, place)
        more = [(self.chance.choice(["same", "unlike"]), *self.chance.choices(pool, k=2)) for _ in range(2)]
        closure, classes = Closure(plan, place, more=more), PlainClasses(ties, place, more)
        self.assertIs(classes.clash(), closure.clashes())
        self.assertEqual([list(one) for one in classes.told()], closure.classes())
        claim = some_claim(self.chance, plan.schema, pool)
        self.assertIs(entailed(ties, place, more, claim), closure.entails(claim))


if __name__ == "__main__":
    unittest.main()
