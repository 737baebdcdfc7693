"""Plans and orders that no other one beats [93] [10]."""

import random
import unittest

from alikes import alike_plan
from lands import planned
from orderly import right_orders
from pairings import plain_plan
from plancalls.best import best, bests, papers, undominated
from plancalls.errors import Twice
from plancalls.fewer import against, never_more
from plancalls.orders import how_many, orders, reordered
from plancalls.plans import Plan
from plancalls.schemas import Schema
from things import error_of

W, V, T, P = [("each", loop, table) for loop, table in zip("wvtp", ("ware", "ware", "town", "part"))]
CHEAP, DEAR = ("same", ("w", "cost"), 1), ("same", ("w", "town"), 2)
NOW, FIX = ("call", "n", "now", (("w", "cost"),)), ("call", "f", "fix", (("w", "town"),))
ALONE = ("call", "n", "now", (7,))
LOG = ("call", "x", "log", (("w", "cost"),))


def marked(*items, shown=()):
    return planned(*items, shown=shown, marks=["w"])


EARLY, MIDDLE, LATE = marked(W, NOW, CHEAP, DEAR), marked(W, CHEAP, NOW, DEAR), marked(W, CHEAP, DEAR, NOW)
OTHER = marked(W, DEAR, NOW, CHEAP)


class Lists(unittest.TestCase):
    def check(self, plans, expected, index, told):
        self.assertEqual(expected, undominated(plans))
        self.assertEqual(index, best(plans))
        self.assertEqual(told, papers(plans))

    def test_one_plan_and_equal_ones(self):
        self.check([EARLY], [0], 0, [])
        self.check([EARLY, EARLY], [0, 1], 0, [])
        self.check([planned()] * 8, list(range(8)), 0, [])

    def test_one_that_beats_all_others(self):
        self.check([EARLY, MIDDLE, LATE], [2], 2, [(0, 1, "n"), (0, 2, "n"), (1, 2, "n")])
        self.check([LATE, EARLY, LATE], [0, 2], 0, [(1, 0, "n"), (1, 2, "n")])

    def test_none_that_does(self):
        self.check([MIDDLE, OTHER], [0, 1], None, [(0, 1, "n"), (1, 0, "n")])
        self.check([EARLY, OTHER, MIDDLE], [1, 2], None, [(0, 1, "n"), (0, 2, "n"), (1, 2, "n"), (2, 1, "n")])

    def test_the_least_answer(self):
        first, second = marked(W, NOW, FIX, CHEAP), marked(W, CHEAP, NOW, FIX)
        self.check([first, second], [1], 1, [(0, 1, "f")])
        crossed, another = marked(W, FIX, CHEAP, NOW), marked(W, NOW, CHEAP, FIX)
        self.check([crossed, another], [0, 1], None, [(0, 1, "f"), (1, 0, "n")])

    def test_calls_of_changing_and_effect_functions_do_not_count(self):
        self.check([marked(W, LOG), marked(W, ("call", "y", *LOG[2:]))], [0, 1], 0, [])

    def test_eight_plans(self):
        plans = [EARLY, MIDDLE, LATE, OTHER] * 2
        self.assertEqual([2, 6], undominated(plans))
        self.assertEqual(2, best(plans))
        # Of each two kinds of plans the one or both may run the call more often than the other.
        self.assertEqual(7 * 4, len(papers(plans)))

    def test_the_list_stays_and_each_list_is_new(self):
        plans = [EARLY, LATE]
        undominated(plans).clear()
        papers(plans).clear()
        bests(EARLY).clear()
        self.assertEqual([EARLY, LATE], plans)
        self.check(plans, [1], 1, [(0, 1, "n")])


class Errors(unittest.TestCase):
    CALLS = [undominated, best, papers]

    def check(self, expected, plans):
        for call in self.CALLS:
            self.assertEqual(expected, error_of(lambda: call(plans)))

    def test_those_of_the_first_pair(self):
        loose = planned(("use",), kept=[("call", "d", "draw", (1,))])
        self.check(("Unlike",), [EARLY, Plan(Schema({}, {}), []), loose])
        self.check(("Loose", 0), [EARLY, loose, Plan(Schema({}, {}), [])])
        self.check(("Hidden", 1, "w"), [planned(W), EARLY])
        self.check(("Parted", "", 0, "lacking"), [EARLY, LATE, marked(W, CHEAP, DEAR, LOG)])
        self.check(("Parted", ".", 0, "conditions"), [EARLY, marked(W, NOW), marked(W, CHEAP, DEAR, LOG)])

    def test_twice(self):
        inner = planned(W, V, NOW, marks=["v", "w"])
        self.check(("Twice", "ware"), [inner, inner])
        outer, middle = planned(ALONE, W, V, marks=["v", "w"]), planned(W, ALONE, V, marks=["v", "w"])
        self.assertEqual([(0, 1, "n"), (1, 0, "n")], papers([outer, middle]))
        self.check(("Twice", "ware"), [outer, middle, inner])
        self.check(("Parted", ".", 0, "marks"), [outer, middle, planned(W, ALONE, marks=["w"]), inner])

    def test_no_pair_no_error(self):
        for plan in (planned(W, V, NOW, marks=["v", "w"]), EARLY):
            self.assertEqual(([0], 0, []), (undominated([plan]), best([plan]), papers([plan])))


class Bests(unittest.TestCase):
    def test_the_calls_come_last(self):
        self.assertEqual([[0, 2, 3, 1], [0, 3, 2, 1]], bests(EARLY))
        self.assertEqual([[0, 1, 2, 3], [0, 2, 1, 3]], bests(LATE))

    def test_several_that_no_other_one_beats(self):
        check = ("same", ("w", "cost"), "n")
        self.assertEqual([[0, 3, 1, 2, 4]], bests(marked(W, NOW, check, DEAR, FIX)))
        # Each of two comparisons wants the call that the other one is for ahead of it.
        calls = [("call", "f", "fix", (("w", "cost"),)), ("call", "g", "fix", (("w", "town"),))]
        plan = marked(W, *calls, ("same", "f", 1), ("same", "g", 2))
        self.assertEqual([[0, 1, 3, 2, 4], [0, 2, 4, 1, 3]], bests(plan))

    def test_one_order_and_no_item(self):
        self.assertEqual([[]], bests(planned()))
        self.assertEqual([[0, 1]], bests(marked(W, LOG)))
        # There is no other order, and so no table that stands twice.
        self.assertEqual([[0, 1, 2]], bests(planned(W, V, ("call", "n", "now", (("v", "cost"),)), marks=["v", "w"])))

    def test_kept_calls(self):
        plan = planned(("use",), CHEAP, NOW, kept=[W, FIX], marks=["w"])
        self.assertEqual([[0, 1, 2]], bests(plan))

    def test_limits(self):
        six = marked(W, CHEAP, NOW, FIX)
        self.assertEqual(6, how_many(six))
        self.assertEqual(2, len(bests(six, most=6)))
        self.assertEqual(("TooMany", 5), error_of(lambda: bests(six, most=5)))
        self.assertEqual(("TooMany", 1), error_of(lambda: bests(six, most=1)))
        self.assertEqual([[0]], bests(marked(W), most=1))
        calls = [("call", name, "fix", (("w", "cost"),)) for name in "abcdef"]
        six = marked(*[W, *calls[:4], LOG, ("same", "x", "a")])
        self.assertEqual(240, how_many(six))
        self.assertEqual(("TooMany", 200), error_of(lambda: bests(six)))
        self.assertEqual(12, len(bests(six, most=1000)))
        self.assertEqual(("TooMany", 1000), error_of(lambda: bests(marked(W, *calls, LOG), most=1000)))

    def test_errors_in_their_order(self):
        loose = planned(("use",), W, NOW, FIX, kept=[("call", "d", "draw", (1,))])
        self.assertEqual(("Loose", 0), error_of(lambda: bests(loose, most=1)))
        self.assertEqual(("Hidden", 3, "w"), error_of(lambda: bests(planned(W, NOW, FIX), most=1)))
        twice = planned(W, V, NOW, FIX, marks=["v", "w"])
        self.assertEqual(("TooMany", 2), error_of(lambda: bests(twice, most=2)))
        self.assertEqual(("Twice", "ware"), error_of(lambda: bests(twice)))

    def test_the_default_limit(self):
        again = ("call", "y", "log", ("x",))
        plan = marked(W, ("same", ("w", "cost"), ("w", "town")), NOW, LOG, ("same", "x", 3), again, ("same", "n", "x"),
                      FIX, ("same", "f", "n"), ("unlike", "f", 9))
        self.assertEqual(200, how_many(plan))
        expected = [[0, 1, 3, 4, *rest] for rest in ([2, 5, 6, 7, 8, 9], [2, 5, 6, 7, 9, 8], [5, 2, 6, 7, 8, 9])]
        found = bests(plan)
        self.assertEqual((8, expected), (len(found), found[:3]))
        self.assertEqual(("TooMany", 199), error_of(lambda: bests(plan, most=199)))


class ByChance(unittest.TestCase):
    def test_bests_by_against(self):
        chance = random.Random(93)
        many = fewer = twice = 0
        while many < 60:
            plan = plain_plan(chance)
            if len(plan.main_items()) > 5 or how_many(plan) > 12:
                continue
            many += 1
            found = right_orders(plan)
            try:
                expected = self.unbeaten(plan, found)
            except Twice as error:
                twice += 1
                self.assertEqual(("Twice", error.table), error_of(lambda: bests(plan)))
                continue
            fewer += len(expected) < len(found)
            self.assertEqual(expected, bests(plan))
        self.assertGreater(fewer, 3)
        self.assertGreater(twice, 3)

    def unbeaten(self, plan, found):
        plans = [reordered(plan, order) for order in found]
        words = {}
        for i, one in enumerate(plans):
            for j in range(i + 1, len(plans)):
                words[(i, j)] = against(one, plans[j])
        beaten = [pair[1] if word == "fewer" else pair[0] for pair, word in words.items() if word in ("fewer", "more")]
        return [order for at, order in enumerate(found) if at not in beaten]

    def test_lists_by_never_more(self):
        chance = random.Random(931)
        none = 0
        for _ in range(120):
            plan = plain_plan(chance)
            plans = [plan, *[alike_plan(chance, plan) for _ in range(chance.randint(0, 4))]]
            try:
                pairs = [(i, j) for i in range(len(plans)) for j in range(len(plans)) if i != j]
                over = {(i, j): self.more(plans[i], plans[j]) for i, j in pairs}
            except Twice:
                self.assertEqual("Twice", error_of(lambda: best(plans))[0])
                continue
            self.assertEqual([(*pair, over[pair][0]) for pair in sorted(over) if over[pair]], papers(plans))
            beaten = [j for i, j in over if not over[(i, j)] and over[(j, i)]]
            self.assertEqual([at for at in range(len(plans)) if at not in beaten], undominated(plans))
            first = [i for i in range(len(plans)) if not any(over[pair] for pair in over if pair[0] == i)]
            none += not first
            self.assertEqual(first[0] if first else None, best(plans))
        self.assertGreater(none, 0)

    def more(self, one, other):
        """Return the answers of fixed and stable functions that one may run more often."""
        found = [answer for plan in (one, other) for answer in plan.answers()
                 if plan.schema.kind(plan.function(answer)) in ("fixed", "stable")]
        return [answer for answer in sorted(set(found)) if not never_more(one, other, answer)]


if __name__ == "__main__":
    unittest.main()
