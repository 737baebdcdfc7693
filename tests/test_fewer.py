"""Which of two plans that are alike runs an item never more often, and cases in which it does [90] [91] [92] [8]."""

import random
import unittest

from alikes import alike_plan
from lands import ask, cell, look, number, planned, row, told
from pairings import plain_plan
from plainfewer import never
from plainly import PlainRun
from plancalls.answers import Answers, keeps, values_in
from plancalls.contents import Contents
from plancalls.errors import Missing, Twice
from plancalls.fewer import against, is_more_case, is_put, more_case, never_more, put
from plancalls.plans import Plan
from plancalls.schemas import Schema
from richly import rich_contents, rich_functions
from things import Equal, error_of, of_all_sorts

W, T, M, L, P = [("each", table[0], table) for table in ("ware", "town", "mayor", "land", "part")]
V = ("each", "v", "ware")
MEET = ("same", ("t", "id"), ("w", "town"))
CHEAP, DEAR = ("same", ("w", "cost"), 1), ("unlike", ("w", "cost"), 1)
NOW = ("call", "n", "now", (7,))
LOG, DRAW = ("call", "x", "log", (("w", "cost"),)), ("call", "d", "draw", (3,))
CLASH = ("same", 1, 2)

# Sales lead to goods, these to makers, and these to lands: nothing leads back. Bids lead to two goods.
SHOP = Schema({"sale": ["good", "sum"], "good": ["id", "maker"], "maker": ["id", "land"], "land": ["id"],
               "bid": ["low", "high"]},
              {"now": (1, "stable"), "draw": (0, "changing")}, keys={"good": "id", "maker": "id", "land": "id"},
              references=[("sale", "good", "good"), ("good", "maker", "maker"), ("maker", "land", "land"),
                          ("bid", "low", "good"), ("bid", "high", "good")])
S, G, K, J, B = [("each", loop, table) for loop, table in zip("sgkjb", ("sale", "good", "maker", "land", "bid"))]
BUY, MAKE, LIVE = [("same", (one, column), (other, "id"))
                   for one, column, other in [("s", "good", "g"), ("g", "maker", "k"), ("k", "land", "j")]]


def shop(*items, marks=("s",), kept=()):
    return Plan(SHOP, list(items), marks=marks, kept=kept)


def marked(*items, shown=(), kept=()):
    return planned(*items, shown=shown, marks=["w"], kept=kept)


def runs(plan, answer, case):
    """Return how often a plan runs the item with an answer."""
    run = PlainRun(plan, *case)
    return len([call for call in run.calls if call[0] == answer])


class Case(unittest.TestCase):
    def holds(self, one, other, answer, putting):
        """Check that one runs an item never more often than other, by this putting."""
        self.assertIs(True, never_more(one, other, answer))
        self.assertEqual(putting, put(one, other, answer))
        self.assertIs(True, is_put(one, other, answer, putting))
        self.assertIsNone(more_case(one, other, answer))

    def fails(self, one, other, answer):
        """Check that one may run an item more often than other, and return the case."""
        self.assertIs(False, never_more(one, other, answer))
        self.assertIsNone(put(one, other, answer))
        contents, functions = case = more_case(one, other, answer)
        self.assertEqual(one.schema.functions(), sorted(functions))
        self.assertIsNone(keeps(one.schema, contents, functions))
        self.assertGreater(runs(one, answer, case), runs(other, answer, case))
        self.assertIs(True, is_more_case(one, other, answer, contents, functions))
        self.assertIs(False, is_more_case(other, one, answer, contents, functions))
        return case

    def twice(self, table, one, other, answer):
        for call in (never_more, put, more_case):
            self.assertEqual(("Twice", table), error_of(lambda: call(one, other, answer)))


class Errors(Case):
    CALLS = [never_more, put, more_case, lambda one, other, answer: is_put(one, other, answer, None),
             lambda one, other, answer: is_more_case(one, other, answer, Contents(one.schema, {}), {})]

    def check(self, expected, one, other, answer):
        for call in self.CALLS:
            self.assertEqual(expected, error_of(lambda: call(one, other, answer)))

    def test_what_compare_raises_then_parted_then_unknown(self):
        plain, other = marked(W, NOW), marked(W, NOW, LOG)
        self.check(("Unlike",), plain, Plan(Schema({}, {}), []), "z")
        self.check(("Unlike",), plain, planned(("each", "w", "town"), NOW), "z")
        self.check(("Loose", 0), planned(("use",), kept=[DRAW, W]), planned(V), "z")
        self.check(("Hidden", 1, "w"), planned(W), planned(("use",), kept=[DRAW]), "z")
        self.check(("Loose", 0), plain, planned(("use",), kept=[DRAW]), "z")
        self.check(("Hidden", 1, "v"), plain, planned(V), "z")
        self.check(("Parted", "", 0, "lacking"), plain, other, "z")
        self.check(("Parted", ".", 0, "conditions"), marked(W, NOW, CHEAP), marked(W, NOW, DEAR), "n")
        for answer in ("z", "w", "now", ""):
            self.check(("Unknown", answer), plain, plain, answer)

    def test_those_of_against(self):
        plain = marked(W, NOW)
        self.assertEqual(("Unlike",), error_of(lambda: against(plain, Plan(Schema({}, {}), []))))
        self.assertEqual(("Hidden", 1, "w"), error_of(lambda: against(planned(W), planned(("use",), kept=[DRAW]))))
        self.assertEqual(("Parted", "", 0, "lacking"), error_of(lambda: against(plain, marked(W, NOW, LOG))))

    def test_no_twice_where_a_thing_is_asked_for(self):
        plan = planned(W, V, NOW, marks=["v", "w"])
        self.twice("ware", plan, plan, "n")
        self.assertIs(True, is_put(plan, plan, "n", [("w", ("loop", "w")), ("v", ("loop", "v"))]))
        functions = {name: Answers() for name in plan.schema.functions()}
        self.assertIs(False, is_more_case(plan, plan, "n", Contents(plan.schema, {}), functions))


class Lacking(Case):
    def test_answers_that_one_of_the_plans_has(self):
        one, other = marked(W, LOG), marked(W, NOW, LOG)
        self.holds(one, other, "n", [])
        self.fails(other, one, "n")

    def test_clashes_in_one_in_the_other_and_in_both(self):
        live, dead = marked(W, NOW, CLASH), marked(W, CLASH, NOW)
        self.holds(dead, live, "n", [])
        self.holds(dead, dead, "n", [])
        self.fails(live, dead, "n")
        # Nothing else tells a call that is never made.
        for thing in [[("w", ("loop", "w"))], (), None, [()], "", {}, [[]], [None]]:
            self.assertIs(False, is_put(dead, live, "n", thing))
        self.assertIs(False, is_put(live, dead, "n", []))
        self.assertIs(False, is_put(live, dead, "n", [("w", ("loop", "w"))]))

    def test_no_putting_where_the_other_one_lacks_it(self):
        one, other = marked(W, NOW, LOG), marked(W, LOG)
        self.assertIs(False, is_put(one, other, "n", []))
        self.assertIs(False, is_put(one, other, "n", [("w", ("loop", "w"))]))

    def test_a_clash_where_the_other_one_lacks_it(self):
        dead, lacking = marked(W, CLASH, NOW), marked(W, CLASH)
        self.holds(dead, lacking, "n", [])
        self.holds(lacking, dead, "n", [])

    def test_a_table_twice_does_not_matter_then(self):
        live, dead = planned(W, V, NOW, CLASH), planned(W, V, CLASH, NOW)
        self.holds(dead, live, "n", [])
        self.fails(live, dead, "n")

    def test_items_of_one_name_that_call_other_functions(self):
        one, other = marked(W, ("call", "n", "fix", (1,)), CHEAP), marked(W, CHEAP, NOW)
        self.fails(one, other, "n")
        self.holds(other, one, "n", [("w", ("loop", "w"))])


class Conditions(Case):
    def test_no_loops_open_in_one_or_in_both(self):
        early, late = marked(NOW, W), marked(W, NOW)
        self.holds(early, early, "n", [])
        case = self.fails(early, late, "n")
        self.assertEqual([], case[0].rows("ware"))
        case = self.fails(late, early, "n")
        self.assertEqual(2, case[0].size("ware"))

    def test_a_condition_ahead_and_behind(self):
        early, late = marked(W, NOW, CHEAP), marked(W, CHEAP, NOW)
        self.holds(late, early, "n", [("w", ("loop", "w"))])
        case = self.fails(early, late, "n")
        self.assertEqual((1, 0), (runs(early, "n", case), runs(late, "n", case)))
        self.holds(marked(W, DEAR, NOW), marked(W, NOW, DEAR), "n", [("w", ("loop", "w"))])
        self.fails(marked(W, NOW, DEAR), marked(W, DEAR, NOW), "n")

    def test_conditions_told_otherwise(self):
        one = marked(W, CHEAP, ("same", ("w", "town"), 1), NOW)
        other = marked(W, ("same", ("w", "town"), ("w", "cost")), NOW, CHEAP)
        self.holds(one, other, "n", [("w", ("loop", "w"))])
        self.fails(other, one, "n")

    def test_made_columns(self):
        net = ("call", "f", "fix", (("w", "cost"),))
        one, other = marked(W, net, NOW, ("same", 1, 1)), marked(W, net, ("same", "f", ("w", "net")), NOW)
        self.holds(one, other, "n", [("w", ("loop", "w"))])
        self.holds(other, one, "n", [("w", ("loop", "w"))])

    def test_answers_of_sites(self):
        check = ("same", "x", 5)
        early, late = marked(W, LOG, NOW, check), marked(W, LOG, check, NOW)
        self.holds(late, early, "n", [("w", ("loop", "w"))])
        self.fails(early, late, "n")
        before = marked(W, NOW, LOG, check)
        self.holds(late, before, "n", [("w", ("loop", "w"))])
        self.fails(before, late, "n")

    def test_an_answer_that_comes_later_in_one(self):
        unlike = ("unlike", "x", 5)
        self.fails(marked(W, NOW, LOG, unlike), marked(W, LOG, unlike, NOW), "n")

    def test_kept_calls(self):
        early = planned(("use",), kept=[W, NOW, CHEAP], marks=["w"])
        late = planned(("use",), NOW, kept=[W, CHEAP], marks=["w"])
        self.holds(late, early, "n", [("w", ("loop", "w"))])
        self.fails(early, late, "n")
        # What is kept is run once, and a main item for each row that was kept.
        kept = shop(B, ("use",), kept=[S, NOW], marks=["b", "s"])
        main = shop(B, ("use",), NOW, kept=[S], marks=["b", "s"])
        self.assertEqual(0, self.fails(kept, main, "n")[0].size("bid"))
        self.fails(main, kept, "n")
        self.holds(kept, kept, "n", [("s", ("loop", "s"))])


class Rows(Case):
    def test_a_row_had_by_a_reference(self):
        # No tie of the good occurs: the sale leads to it.
        one, other = shop(S, NOW, G, BUY), shop(S, G, BUY, NOW)
        self.holds(one, other, "n", [("s", ("loop", "s")), ("g", row("good", cell("s", "good")))])
        self.holds(other, one, "n", [("s", ("loop", "s"))])

    def test_rows_had_by_references_one_after_another(self):
        one = shop(S, NOW, G, BUY, K, MAKE, J, LIVE)
        other = shop(S, G, BUY, K, MAKE, J, LIVE, NOW)
        maker = look("good", "maker", cell("s", "good"))
        land = row("land", look("maker", "land", maker))
        rows = [("loop", "s"), row("good", cell("s", "good")), row("maker", maker), land]
        self.holds(one, other, "n", list(zip("sgkj", rows)))
        self.holds(other, one, "n", [("s", ("loop", "s"))])

    def test_a_row_that_no_reference_tells(self):
        # A sale leads to no bid: there may be none.
        meet = ("same", ("b", "low"), ("s", "good"))
        one, other = shop(S, NOW, B, meet, marks=["b", "s"]), shop(S, B, meet, NOW, marks=["b", "s"])
        self.assertEqual(0, self.fails(one, other, "n")[0].size("bid"))

    def test_rows_had_by_looks(self):
        maker = look("good", "maker", cell("g", "id"))
        one, other = shop(G, NOW, K, MAKE, marks=["g"]), shop(G, K, MAKE, NOW, marks=["g"])
        self.holds(one, other, "n", [("g", row("good", cell("g", "id"))), ("k", row("maker", maker))])

    def test_rows_had_by_answers(self):
        draw, check = ("call", "d", "draw", ()), ("same", ("k", "id"), "d")
        one, other = shop(draw, K, check, NOW, marks=["k"]), shop(draw, K, NOW, check, marks=["k"])
        self.holds(one, other, "n", [("k", row("maker", cell("k", "id")))])
        self.assertIs(True, is_put(one, other, "n", [("k", row("maker", told("draw", 0)))]))
        self.assertIs(False, is_put(other, one, "n", [("k", row("maker", told("draw", 0)))]))
        # The maker whose key is the answer leads to a land.
        one, other = shop(draw, K, check, NOW, J, LIVE, marks=["k"]), shop(draw, K, check, J, LIVE, NOW, marks=["k"])
        land = row("land", look("maker", "land", told("draw", 0)))
        self.assertEqual("land", put(one, other, "n")[1][1][1])
        self.assertIs(True, is_put(one, other, "n", [("k", row("maker", told("draw", 0))), ("j", land)]))

    def test_tables_without_rows(self):
        one, other = marked(NOW, W), marked(W, NOW)
        self.assertEqual(0, self.fails(one, other, "n")[0].size("ware"))
        town = ("same", ("t", "id"), 4)
        case = self.fails(planned(NOW, T, town), planned(T, town, NOW), "n")
        self.assertEqual(0, case[0].size("town"))

    def test_loops_that_are_not_settled(self):
        early, late = planned(NOW, T, marks=["t"]), planned(T, NOW, marks=["t"])
        case = self.fails(late, early, "n")
        self.assertEqual((2, 1), (runs(late, "n", case), runs(early, "n", case)))
        town = ("same", ("t", "id"), 4)
        self.holds(planned(T, town, NOW), planned(NOW, T, town), "n", [])

    def test_two_points_with_a_row_in_common(self):
        # Of one good there are two sales, and of one sale two bids.
        case = self.fails(shop(G, S, BUY, NOW, marks=["g", "s"]), shop(G, NOW, S, BUY, marks=["g", "s"]), "n")
        self.assertEqual((1, 2), (case[0].size("good"), case[0].size("sale")))
        case = self.fails(shop(S, B, NOW, marks=["b", "s"]), shop(S, NOW, B, marks=["b", "s"]), "n")
        self.assertEqual((1, 2), (case[0].size("sale"), case[0].size("bid")))
        dear = ("unlike", ("s", "sum"), ("b", "high"))
        case = self.fails(shop(S, B, dear, NOW, marks=["b", "s"]), shop(S, NOW, B, dear, marks=["b", "s"]), "n")
        self.assertEqual((1, 2), (case[0].size("sale"), case[0].size("bid")))

    def test_two_points_with_an_answer_in_common(self):
        # Both bids are at what was drawn for the sale.
        draw, check = ("call", "d", "draw", ()), ("same", ("b", "low"), "d")
        one = shop(S, draw, B, check, NOW, marks=["b", "s"])
        case = self.fails(one, shop(S, draw, NOW, B, check, marks=["b", "s"]), "n")
        self.assertEqual(2, runs(one, "n", case))

    def test_two_points_with_answers_of_their_own(self):
        draw, check = ("call", "d", "draw", ()), ("same", ("b", "low"), "d")
        one = shop(S, B, draw, check, NOW, marks=["b", "s"])
        case = self.fails(one, shop(S, NOW, B, draw, check, marks=["b", "s"]), "n")
        self.assertEqual(2, runs(one, "n", case))
        # One drawn for the sale, and one for each of its bids.
        again, other = ("call", "e", "draw", ()), ("same", ("b", "high"), "e")
        one = shop(S, draw, B, again, check, other, NOW, marks=["b", "s"])
        case = self.fails(one, shop(S, draw, NOW, B, again, check, other, marks=["b", "s"]), "n")
        self.assertEqual(2, runs(one, "n", case))

    def test_a_row_that_another_answer_tells_each_time(self):
        # The loop goes on where its key is the answer of a call: at each row another one.
        check = ("same", ("t", "id"), "d")
        late, early = planned(T, DRAW, check, NOW, marks=["t"]), planned(NOW, T, DRAW, check, marks=["t"])
        case = self.fails(late, early, "n")
        self.assertEqual((2, 1), (runs(late, "n", case), runs(early, "n", case)))
        self.assertEqual(2, case[0].size("town"))

    def test_loops_of_one_with_one_row(self):
        same = ("same", ("t", "id"), ("u", "id"))
        one = planned(T, ("each", "u", "town"), same, NOW, marks=["t"])
        other = planned(T, NOW, ("each", "u", "town"), same, marks=["t"])
        self.holds(one, other, "n", [("t", row("town", cell("t", "id")))])
        # The loops of other are two over one table, but the one row that there is will do.
        self.holds(one, one, "n", [(loop, row("town", cell("t", "id"))) for loop in "tu"])


class StandsTwice(Case):
    def test_two_loops_of_other(self):
        other = shop(S, ("each", "r", "sale"), NOW, ("unlike", ("r", "sum"), 3), marks=["r", "s"])
        one = shop(S, NOW, ("each", "r", "sale"), ("unlike", ("r", "sum"), 3), marks=["r", "s"])
        self.twice("sale", other, other, "n")
        # The one row that there is will do for both of them, if the conditions hold.
        self.holds(one, other, "n", [("s", ("loop", "s")), ("r", ("loop", "s"))])
        inner = shop(S, ("each", "r", "sale"), ("unlike", ("r", "sum"), 3), NOW, marks=["r", "s"])
        self.twice("sale", one, inner, "n")

    def test_two_rows_of_one_without_a_key(self):
        one = shop(S, ("each", "r", "sale"), NOW, marks=["r", "s"])
        other = shop(S, NOW, ("each", "r", "sale"), marks=["r", "s"])
        self.twice("sale", one, other, "n")
        self.holds(other, one, "n", [("s", ("loop", "s")), ("r", ("loop", "s"))])

    def test_two_rows_of_one_with_a_key(self):
        same = ("same", ("g", "id"), ("h", "id"))
        goods = [G, ("each", "h", "good")]
        early, late = shop(*goods, NOW, same, marks=["g", "h"]), shop(*goods, same, NOW, marks=["g", "h"])
        self.twice("good", early, late, "n")
        key = row("good", cell("g", "id"))
        self.holds(late, early, "n", [("g", key), ("h", key)])

    def test_a_row_of_a_loop_and_one_by_a_reference(self):
        # The town leads to another town.
        early = planned(T, NOW, ("same", ("t", "near"), 3), marks=["t"])
        late = planned(T, ("same", ("t", "near"), 3), NOW, marks=["t"])
        self.twice("town", early, late, "n")
        # But the plain putting is right the other way about.
        self.holds(late, early, "n", [("t", row("town", cell("t", "id")))])

    def test_the_only_row_of_a_loop_beside_another_one(self):
        plan = planned(T, NOW, marks=["t"])
        self.holds(plan, plan, "n", [("t", row("town", cell("t", "id")))])

    def test_two_rows_by_references_alone(self):
        low = ("same", ("g", "id"), ("b", "low"))
        one, other = shop(B, NOW, G, low, marks=["b"]), shop(B, G, low, NOW, marks=["b"])
        self.twice("good", one, other, "n")
        same = ("same", ("b", "low"), ("b", "high"))
        one, other = shop(B, same, NOW, G, low, marks=["b"]), shop(B, same, G, low, NOW, marks=["b"])
        self.holds(one, other, "n", [("b", ("loop", "b")), ("g", row("good", cell("b", "low")))])
        self.assertIs(True, is_put(one, other, "n", [("b", ("loop", "b")), ("g", row("good", cell("b", "high")))]))

    def test_references_without_an_end(self):
        # A town leads to a town, and to a land, this to a mayor, and this to a town again.
        land = ("same", ("l", "id"), 1)
        one, other = planned(T, NOW, L, land, marks=["t"]), planned(T, L, land, NOW, marks=["t"])
        self.twice("land", one, other, "n")
        self.twice("mayor", planned(T, NOW, M, ("same", ("m", "id"), 1), marks=["t"]),
                   planned(T, M, ("same", ("m", "id"), 1), NOW, marks=["t"]), "n")
        # None of these leads to wares.
        four = ("same", ("t", "id"), 4)
        self.fails(marked(T, four, NOW, W), marked(W, NOW, T, four), "n")

    def test_rows_to_which_rows_of_a_table_that_has_two_lead(self):
        # Two goods have one maker, but the sale leads to another good, and this one to another maker.
        five = [("same", (loop, column), 5) for loop, column in [("g", "maker"), ("h", "maker"), ("k", "id")]]
        goods = [G, ("each", "h", "good"), *five[:2]]
        with_sale = shop(*goods, S, NOW, K, five[2], marks=["g", "h", "s"])
        self.twice("maker", with_sale, shop(K, five[2], NOW, *goods, S, marks=["g", "h", "s"]), "n")
        without = shop(*goods, NOW, K, five[2], marks=["g", "h"])
        self.fails(without, shop(K, five[2], NOW, *goods, marks=["g", "h"]), "n")

    def test_the_least_table(self):
        tables = [("each", "t", "town"), ("each", "u", "town"), ("each", "p", "part"), ("each", "q", "part")]
        plan = planned(*tables, NOW, marks=["p", "q", "t", "u"])
        self.twice("part", plan, plan, "n")


class IsPut(Case):
    LATE, EARLY = marked(W, CHEAP, NOW), marked(W, NOW, CHEAP)

    def test_other_values(self):
        for thing in of_all_sorts():
            self.assertIs(False, is_put(self.LATE, self.EARLY, "n", thing))
            self.assertIs(False, is_put(self.LATE, self.EARLY, "n", [thing]))
            for told_row in [thing, ("loop", thing), (thing, "w"), ("row", thing, number(1)), ("row", "ware", thing)]:
                self.assertIs(False, is_put(self.LATE, self.EARLY, "n", [("w", told_row)]))
            self.assertIs(False, is_put(self.LATE, self.EARLY, "n", [(thing, ("loop", "w"))]))

    def test_spoilt_ones(self):
        right = ("w", ("loop", "w"))
        self.assertIs(True, is_put(self.LATE, self.EARLY, "n", [right]))
        for thing in [[], [right, right], (right,), [["w", ("loop", "w")]], [("w", ["loop", "w"])],
                      [("w", ("loop", "v"))], [("v", ("loop", "w"))], [("w", ("loop", "w", 1))], [(*right, 1)],
                      [("w",)], right, [Equal()],
                      [("w", ("row", "ware", cell("w", "cost")))], [("w", ("loop",))], [(Equal(), ("loop", "w"))],
                      [("w", (Equal(), Equal()))], [("w", ("row", "town", cell("w", "town")))], [right] * 10000]:
            self.assertIs(False, is_put(self.LATE, self.EARLY, "n", thing))
        self.assertIs(False, is_put(self.EARLY, self.LATE, "n", [right]))

    def test_other_ties_of_the_class(self):
        four = ("same", ("w", "town"), 4)
        one, other = marked(W, four, NOW, T, MEET), marked(W, four, T, MEET, NOW)
        for tie in [cell("w", "town"), number(4)]:
            self.assertIs(True, is_put(one, other, "n", [("w", ("loop", "w")), ("t", row("town", tie))]))
        near = look("town", "near", number(4))
        for tie in [near, number(5), cell("w", "cost"), ask("fix", number(4)), told("draw", 0), cell("t", "id"),
                    look("town", "land", number(4))]:
            self.assertIs(False, is_put(one, other, "n", [("w", ("loop", "w")), ("t", row("town", tie))]))

    def test_ties_of_all_forms(self):
        asked, draws = ("call", "a", "now", (("s", "sum"),)), [("call", name, "draw", ()) for name in "de"]
        checks = [("same", ("k", "id"), "e"), ("same", ("k", "id"), "a")]
        one, other = shop(S, asked, *draws, K, *checks, NOW), shop(S, asked, *draws, K, NOW, *checks)
        for tie in [cell("k", "id"), told("draw", 1), ask("now", cell("s", "sum"))]:
            self.assertIs(True, is_put(one, other, "n", [("s", ("loop", "s")), ("k", row("maker", tie))]))
        total = cell("s", "sum")
        for tie in [told("draw", True), told("draw", 0), told("draw", 2), told("draw", -1), told("draws", 1),
                    told("now", 1),
                    ("told", "draw", 1, 1), ("told", "draw"), ask("now"), ask("now", total, total), ("ask", "now",
                                                                                                     [total]),
                    ("ask", "now", total), ("ask", "now", (total,), 1), ask("draw"), ask("nows", total), ask("now",
                                                                                                             number(1)),
                    ask("now", ("cell", "s", "sums")), ("cell", "k", "land"), ("cell", "k", "id", "id"), ("cell", "k")]:
            self.assertIs(False, is_put(one, other, "n", [("s", ("loop", "s")), ("k", row("maker", tie))]))

    def test_looks_and_integers(self):
        one, other = shop(S, NOW, G, BUY, K, MAKE), shop(S, G, BUY, K, MAKE, NOW)
        good = cell("s", "good")
        begun = [("s", ("loop", "s")), ("g", row("good", good))]
        self.assertIs(True, is_put(one, other, "n", [*begun, ("k", row("maker", look("good", "maker", good)))]))
        for tie in [("look", "good", "id", good), ("look", "good", "maker"), ("look", "good", "maker", good, good),
                    ("look", "sale", "good", good), ("look", "goods", "maker", good), ("look", "good", "makers", good),
                    look("good", "maker", number(1)), look("maker", "land", good), ("look", "good", "maker", ("int",
                                                                                                              True))]:
            self.assertIs(False, is_put(one, other, "n", [*begun, ("k", row("maker", tie))]))
        first = ("same", ("k", "id"), 1)
        one, other = shop(K, first, NOW, marks=["k"]), shop(K, NOW, first, marks=["k"])
        self.assertIs(True, is_put(one, other, "n", [("k", row("maker", number(1)))]))
        for tie in [("int", True), ("int", 1, 1), ("int",), ("int", "1"), ("ints", 1), number(0), number(2)]:
            self.assertIs(False, is_put(one, other, "n", [("k", row("maker", tie))]))

    def test_columns_of_loops_with_a_key(self):
        one, other = shop(K, NOW, J, LIVE, marks=["k"]), shop(K, J, LIVE, NOW, marks=["k"])
        maker = ("k", row("maker", cell("k", "id")))
        self.assertIs(True, is_put(one, other, "n", [maker, ("j", row("land", look("maker", "land", cell("k",
                                                                                                         "id"))))]))
        self.assertIs(False, is_put(one, other, "n", [maker, ("j", row("land", cell("k", "land")))]))

    def test_an_answer_at_its_own_row_told_otherwise(self):
        draw, check = ("call", "d", "draw", ()), ("same", "d", 3)
        first = ("same", ("k", "id"), 1)
        one, other = shop(K, first, draw, check, NOW, marks=["k"]), shop(K, first, draw, check, NOW, marks=["k"])
        for tie in (cell("k", "id"), number(1)):
            self.assertIs(True, is_put(one, other, "n", [("k", row("maker", tie))]))

    def test_rows_told_otherwise(self):
        one, other = shop(S, K, NOW, marks=["k", "s"]), shop(S, K, NOW, marks=["k", "s"])
        right, key = [("s", ("loop", "s")), ("k", row("maker", cell("k", "id")))], cell("k", "id")
        self.assertIs(True, is_put(one, other, "n", right))
        for told_row in [("loop", "k"), ("row", "maker"), ("row", "maker", key, key), ("rows", "maker", key), ("row",
                                                                                                               "good",
                                                                                                               key),
                         ("row", "land", key), ("loop", "k", "k"), ("row", key), ("loop",)]:
            self.assertIs(False, is_put(one, other, "n", [right[0], ("k", told_row)]))
        for told_row in [("loop", "k"), ("loop", "s", "s"), ("row", "sale", cell("s", "sum")), ("loops", "s"), ("loop",
                                                                                                                "z")]:
            self.assertIs(False, is_put(one, other, "n", [("s", told_row), right[1]]))

    def test_what_is_no_tie(self):
        one, other = planned(T, NOW, marks=["t"]), planned(T, NOW, marks=["t"])
        key = cell("t", "id")
        self.assertIs(True, is_put(one, other, "n", [("t", row("town", key))]))
        for tie in [("int",), ("int", True), ("int", 1, 1), ("int", "1"), ("cell", "t"), ("cell", "t", "near"),
                    ("cell", "t", "none"), ("cell", "w", "cost"), ("cell", "t", "id", 1), ("look", "town", "id", key),
                    ("look", "town", "near"), ("look", "ware", "cost", key), ("look", "town", "none", key),
                    ("look", 1, 2, 3),
                    ("ask", "fix", key), ("ask", "fix", (key, key)), ("ask", "log", (key,)), ("ask", "none", ()),
                    ("ask", "fix", [key]), ("ask", "fix", (None,)), ("told", "draw"), ("told", 1, 0),
                    ("told", "draw", True),
                    ("told", ".", 0), ("told", "fix", 0), ("tell", 1), list(key), "t", (), ("cell", ["t"], "id"), None,
                    ("look", "town", "near", None), (Equal(), "t", "id"), ("cell", Equal(), "id"),
                    ("told", Equal(), 0)]:
            self.assertIs(False, is_put(one, other, "n", [("t", ("row", "town", tie))]))

    def test_deep_and_wide_ties(self):
        one = planned(T, NOW, marks=["t"])
        deep, wide = cell("t", "id"), number(1)
        for _ in range(10):
            deep = look("town", "near", deep)
            wide = ask("add", wide, wide)
        self.assertIs(False, is_put(one, one, "n", [("t", row("town", deep))]))
        self.assertIs(False, is_put(one, one, "n", [("t", row("town", wide))]))
        keeping = planned(T, ("same", ("t", "id"), ("t", "near")), NOW, marks=["t"])
        self.assertIs(True, is_put(keeping, keeping, "n", [("t", row("town", deep))]))

    def test_puttings_that_are_not_plain(self):
        one = planned(W, V, NOW, marks=["v", "w"])
        crossed, straight = [[("w", ("loop", first)), ("v", ("loop", second))] for first, second in ("vw", "wv")]
        for thing in (crossed, straight):
            self.assertIs(True, is_put(one, one, "n", thing))
            self.assertIs(False, is_put(one, one, "n", thing[::-1]))
        both = [("w", ("loop", "w")), ("v", ("loop", "w"))]
        self.assertIs(False, is_put(one, one, "n", both))

    def test_answers_at_other_rows_are_not_those_of_one(self):
        cheap = ("same", "x", 5)
        one = planned(W, LOG, cheap, V, ("same", ("v", "town"), 1), NOW, marks=["v", "w"])
        other = planned(W, LOG, V, cheap, NOW, ("same", ("v", "town"), 1), marks=["v", "w"])
        self.assertIs(True, is_put(one, other, "n", [("w", ("loop", "w")), ("v", ("loop", "v"))]))
        # The answer at the row of v is not known, and not what x is at the row of w.
        self.assertIs(False, is_put(one, other, "n", [("w", ("loop", "v")), ("v", ("loop", "w"))]))


class IsMoreCase(Case):
    LATE, EARLY = marked(W, CHEAP, NOW), marked(W, NOW, CHEAP)
    FUNCTIONS = {name: Answers() for name in planned().schema.functions()}

    def check(self, expected, rows, functions=FUNCTIONS, one=EARLY, other=LATE):
        contents = Contents(one.schema, rows)
        self.assertIs(expected, is_more_case(one, other, "n", contents, functions))

    def kept(self, ware):
        return {"ware": ware, "town": [(0, 0, 0)], "land": [(0, 0)], "mayor": [(0, 0)]}

    def test_contents_that_keep_the_schema(self):
        self.check(True, self.kept([(0, 2, 0, 0)]))
        self.check(False, self.kept([(0, 1, 0, 0)]))
        self.check(False, self.kept([]))
        self.check(False, self.kept([(0, 2, 0, 0)]), one=self.LATE, other=self.EARLY)
        self.check(True, self.kept([(0, 2, 0, 0), (0, 1, 0, 0)]))

    def test_contents_that_do_not_keep_it(self):
        self.check(False, {"ware": [(0, 2, 0, 0)]})
        self.check(False, self.kept([(0, 2, 1, 0)]))
        self.check(False, self.kept([(0, 2, 0, 0)]), {**self.FUNCTIONS, "fix": Answers(rest=1)})
        self.check(False, {**self.kept([(0, 2, 0, 0)]), "town": [(0, 0, 0), (0, 0, 0)]})
        other = Schema({"ware": ["town", "cost", "net", "all"]}, {})
        self.assertIs(False, is_more_case(self.EARLY, self.LATE, "n", Contents(other, {"ware": [(0, 2, 0, 0)]}), {}))

    def test_any_functions(self):
        functions = {name: (lambda arguments, many: 0) for name in ("fix", "add", "now")}
        self.check(True, self.kept([(0, 2, 0, 0)]), functions)
        with self.assertRaises(Missing):
            self.check(True, self.kept([(0, 2, 0, 0)]), {"now": functions["now"]})

    def test_answers_that_one_of_the_plans_has(self):
        without = marked(W, CHEAP)
        self.check(True, self.kept([(0, 2, 0, 0)]), other=without)
        self.check(False, self.kept([(0, 2, 0, 0)]), one=without, other=self.EARLY)


class Against(Case):
    OTHER = ("call", "m", "now", (8,))

    def test_the_four_words(self):
        early, late = marked(W, NOW, CHEAP), marked(W, CHEAP, NOW)
        self.assertEqual(["even", "fewer", "more"], [against(early, early), against(late, early), against(early, late)])
        one, other = marked(W, NOW, CHEAP, self.OTHER), marked(W, self.OTHER, CHEAP, NOW)
        self.assertEqual(["either", "either"], [against(one, other), against(other, one)])
        self.assertEqual("even", against(planned(), planned()))

    def test_answers_of_either_plan(self):
        self.assertEqual("fewer", against(marked(W), marked(W, NOW)))
        self.assertEqual("more", against(marked(W, NOW), marked(W)))
        self.assertEqual("either", against(marked(W, NOW), marked(W, self.OTHER)))

    def test_calls_of_changing_and_effect_functions_do_not_count(self):
        log = ("call", "y", "log", (("w", "cost"),))
        self.assertEqual("even", against(marked(W, LOG), marked(W, log)))
        fixed = ("call", "y", "fix", (1,))
        self.assertEqual("fewer", against(marked(W, LOG), marked(W, ("call", "z", *LOG[2:]), fixed)))
        # Names that the plans have in common, each for a call that counts in one of them.
        self.assertEqual("even", against(marked(W, LOG, fixed), marked(W, log, ("call", "x", "fix", (1,)))))

    def test_twice_answer_by_answer_whatever_was_clear_before(self):
        # For x they are clear, either of the two may run it more often; y is judged nevertheless.
        first, second = ("call", "x", "now", (1,)), ("call", "y", "now", (2,))
        rest = [S, ("each", "r", "sale"), B, ("each", "c", "bid")]
        marks = list("bcrs")
        one, other = shop(first, *rest, second, marks=marks), shop(S, first, *rest[1:], second, marks=marks)
        self.assertEqual([False, False], [never_more(one, other, "x"), never_more(other, one, "x")])
        self.assertEqual(("Twice", "bid"), error_of(lambda: against(one, other)))
        # The least answer comes first, then one and other, then the other way about.
        one = shop(*rest[:2], first, *rest[2:], second, marks=marks)
        self.assertEqual(("Twice", "sale"), error_of(lambda: against(one, one)))
        names = [("call", "y", "now", (1,)), ("call", "x", "now", (2,))]
        one = shop(*rest[:2], names[0], *rest[2:], names[1], marks=marks)
        self.assertEqual(("Twice", "bid"), error_of(lambda: against(one, one)))

    def test_both_ways_about(self):
        # Never more often one way about, and a table twice the other way.
        one = shop(S, ("each", "r", "sale"), NOW, marks=["r", "s"])
        other = shop(S, NOW, ("each", "r", "sale"), marks=["r", "s"])
        self.assertIs(True, never_more(other, one, "n"))
        self.assertEqual(("Twice", "sale"), error_of(lambda: against(one, other)))
        self.assertEqual(("Twice", "sale"), error_of(lambda: against(other, one)))
        # Two tables, one each way about: the one of one and other is named.
        lands = [("each", loop, "land") for loop in "jn"]
        makers = [("each", loop, "maker") for loop in "km"]
        settle = [("same", (loop, "id"), at) for at, loop in enumerate("jnkm")]
        first = shop(*lands, *settle[:2], ("call", "x", "now", (1,)), *makers, *settle[2:], marks=[])
        second = shop(*makers, *settle[2:], ("call", "x", "now", (1,)), *lands, *settle[:2], marks=[])
        self.assertEqual(("Twice", "maker"), error_of(lambda: against(first, second)))
        self.assertEqual(("Twice", "land"), error_of(lambda: against(second, first)))

    def test_the_same_each_time(self):
        early, late = marked(W, NOW, CHEAP), marked(W, CHEAP, NOW)
        put(late, early, "n").clear()
        contents, functions = more_case(early, late, "n")
        functions.clear()
        self.assertEqual([("w", ("loop", "w"))], put(late, early, "n"))
        self.assertEqual(planned().schema.functions(), sorted(more_case(early, late, "n")[1]))
        self.assertEqual(contents, more_case(early, late, "n")[0])


class ByChance(unittest.TestCase):
    def check_sizes(self, one, answer, contents):
        """Check that a table has two rows for each loop at the call at most, and those to which references lead."""
        schema = one.schema
        loops = [one.table_of(loop) for loop in one.open_at(one.place_of(answer))]
        for table in schema.tables():
            led = [value for source, column, target in schema.references() if target == table
                   for value in values_in(contents, source, column)]
            rows = contents.rows(table)
            if schema.key(table) is not None:
                rows = [key for key in values_in(contents, table, schema.key(table)) if key not in led]
            self.assertLessEqual(len(rows), 2 * loops.count(table))

    def test_puttings_and_cases(self):
        chance = random.Random(90)
        many = {True: 0, False: 0, "twice": 0}
        for _ in range(220):
            plan = plain_plan(chance)
            other = alike_plan(chance, plan)
            for one, another in ((plan, other), (other, plan)):
                for answer in sorted({*one.answers(), *another.answers()}):
                    expected = never(one, another, answer)
                    many[expected if isinstance(expected, bool) else "twice"] += 1
                    self.check(chance, expected, one, another, answer)
        self.assertGreater(min(many.values()), 50)

    def check(self, chance, expected, one, other, answer):
        try:
            found = never_more(one, other, answer)
        except Twice as error:
            self.assertEqual(expected, error.table)
            return
        self.assertIs(expected, found)
        if found:
            self.assertIs(True, is_put(one, other, answer, put(one, other, answer)))
            for _ in range(3):
                functions = rich_functions(chance, one.schema)
                case = (rich_contents(chance, one.schema, functions), functions)
                self.assertIs(False, is_more_case(one, other, answer, *case))
                self.assertLessEqual(runs(one, answer, case), runs(other, answer, case))
        else:
            case = more_case(one, other, answer)
            self.assertIsNone(keeps(one.schema, *case))
            self.assertIs(True, is_more_case(one, other, answer, *case))
            self.assertGreater(runs(one, answer, case), runs(other, answer, case))
            self.check_sizes(one, answer, case[0])


class Large(Case):
    def test_ten_steps_and_four_loops(self):
        loops = [W, ("each", "m", "mayor"), ("each", "l", "land"), T]
        joins = [MEET, ("same", ("l", "id"), ("t", "land")), ("same", ("m", "id"), ("l", "head"))]
        one, other = marked(*loops, *joins, NOW, CHEAP, DRAW), marked(*loops, *joins, CHEAP, DRAW, NOW)
        self.twice("land", one, other, "n")
        settled = [("same", ("t", "near"), ("t", "id")), ("same", ("m", "town"), ("t", "id"))]
        late = marked(*loops, *joins, *settled, NOW)
        self.holds(late, late, "n", [("w", ("loop", "w")), ("m", row("mayor", cell("m", "id"))),
                                     ("l", row("land", cell("l", "id"))), ("t", row("town", cell("t", "id")))])

    def test_great_integers(self):
        far = ("same", ("w", "cost"), 10 ** 40 - 1)
        self.fails(marked(W, NOW, far), marked(W, far, NOW), "n")


if __name__ == "__main__":
    unittest.main()
