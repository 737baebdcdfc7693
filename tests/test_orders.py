"""Right orders of the main items of a plan: all of them, their numbers, and exchanges [80] [9]."""

import itertools
import random
import unittest

from lands import planned
from orderly import fewest_exchanges, right_orders
from pairings import plain_plan
from plancalls.alike import are_alike
from plancalls.orders import exchanges, how_many, is_order, next_items, number_of, order_at, orders, reordered
from plancalls.plans import Plan
from plancalls.schemas import Schema
from things import Equal, error_of, of_all_sorts

W, T = ("each", "w", "ware"), ("each", "t", "town")
MEET = ("same", ("t", "id"), ("w", "town"))
LOG, PING, DRAW = ("call", "x", "log", (("w", "cost"),)), ("call", "y", "ping", ()), ("call", "d", "draw", (3,))
NOW = ("call", "n", "now", (("w", "cost"),))
ALONE = ("call", "n", "now", (4,))
CHEAP, DEAR = ("same", ("w", "cost"), 1), ("unlike", ("w", "net"), 9)
LOOSE = planned(("use",), kept=[DRAW])
HIDDEN = planned(W)
TEN = planned(*[("call", name, "fix", (at,)) for at, name in enumerate("abcdefghij")], shown=["a"])


def marked(*items, shown=(), kept=()):
    return planned(*items, shown=shown, marks=["w"], kept=kept)


class Reordered(unittest.TestCase):
    def test_the_plan(self):
        plan = marked(W, CHEAP, NOW, LOG, shown=["n"])
        self.assertEqual(marked(W, NOW, LOG, CHEAP, shown=["n"]), reordered(plan, [0, 2, 3, 1]))
        self.assertEqual(plan, reordered(plan, [0, 1, 2, 3]))
        self.assertEqual(planned(), reordered(planned(), []))

    def test_kept_items_stay(self):
        plan = planned(W, ("use",), MEET, kept=[T], marks=["w"])
        self.assertEqual(planned(("use",), W, MEET, kept=[T], marks=["w"]), reordered(plan, [1, 0, 2]))

    def test_no_plan(self):
        plan = planned(W, ("use",), MEET, LOG, kept=[T], marks=["w"])
        self.assertEqual(("BadItem", 1), error_of(lambda: reordered(plan, [2, 1, 0, 3])))
        self.assertEqual(("BadItem", 2), error_of(lambda: reordered(plan, [1, 3, 0, 2])))

    def test_plans_that_are_not_plain(self):
        self.assertEqual(HIDDEN, reordered(HIDDEN, [0]))
        self.assertEqual(LOOSE, reordered(LOOSE, [0]))


class IsOrder(unittest.TestCase):
    PLAN = marked(W, CHEAP, NOW)

    def test_right_orders(self):
        for order in ([0, 1, 2], [0, 2, 1]):
            self.assertIs(True, is_order(self.PLAN, order))
        for order in ([1, 0, 2], [1, 2, 0], [2, 0, 1], [2, 1, 0]):
            self.assertIs(False, is_order(self.PLAN, order))
        self.assertIs(True, is_order(planned(), []))

    def test_other_values(self):
        for thing in of_all_sorts():
            self.assertIs(False, is_order(self.PLAN, thing))
        for thing in [(0, 1, 2), [0, 1], [0, 1, 2, 2], [0, 1, 1], [0, 1, 3], [0, 1, -1], [False, True, 2], [0, 1, True],
                      [0, [1], 2], [[0, 1, 2]], ["0", "1", "2"], [0, 1, None], [0, 1, Equal()], [0, 1, 10 ** 40],
                      [0] * 10000, [[[[[[[[[[[[0]]]]]]]]]]]], [0, 1, "n"]]:
            self.assertIs(False, is_order(self.PLAN, thing))

    def test_a_single_item_is_not_told_by_a_truth(self):
        self.assertIs(True, is_order(planned(ALONE), [0]))
        self.assertIs(False, is_order(planned(ALONE), [False]))


class Errors(unittest.TestCase):
    def test_loose_then_hidden_then_the_rest(self):
        both = planned(("use",), W, kept=[DRAW])
        calls = [lambda plan: is_order(plan, None), lambda plan: list(orders(plan)), how_many,
                 lambda plan: order_at(plan, -1), lambda plan: number_of(plan, [0, 1]),
                 lambda plan: next_items(plan, [7]), lambda plan: exchanges(plan, [0, 1], [0, 1])]
        for call in calls:
            self.assertEqual(("Loose", 0), error_of(lambda: call(both)))
            self.assertEqual(("Loose", 1), error_of(lambda: call(planned(("use",), kept=[W, LOG], marks=["w"]))))
            self.assertEqual(("Hidden", 1, "w"), error_of(lambda: call(HIDDEN)))

    def test_the_generator_raises_when_the_first_order_is_asked_for(self):
        found = orders(HIDDEN)
        self.assertEqual(("Hidden", 1, "w"), error_of(lambda: next(found)))

    def test_no_number(self):
        plan = marked(W, CHEAP, NOW)
        for number in (-1, 2, 3, -2, 10 ** 39, -10 ** 39):
            self.assertEqual(("NoNumber", number), error_of(lambda: order_at(plan, number)))
        self.assertEqual(("NoNumber", 1), error_of(lambda: order_at(planned(), 1)))


class Orders(unittest.TestCase):
    def check(self, expected, plan):
        self.assertEqual(expected, list(orders(plan)))
        self.assertEqual(len(expected), how_many(plan))

    def test_no_item_and_one(self):
        self.check([[]], planned())
        self.check([[0]], marked(W))

    def test_items_that_cannot_stand_elsewhere(self):
        self.check([[0, 1, 2]], marked(W, NOW, ("same", "n", 1), shown=["n"]))
        # A comparison tells which rows there are, a loop which way about.
        self.check([[0, 1]], planned(W, ("each", "v", "ware"), marks=["w", "v"]))
        self.check([[0, 1, 2]], marked(W, CHEAP, LOG))
        self.check([[0, 1, 2]], marked(W, LOG, CHEAP))
        self.check([[0, 1, 2]], marked(W, T, MEET))

    def test_loops_settled_alike_may_be_exchanged(self):
        same = [("same", (loop, "id"), 5) for loop in "tu"]
        plan = planned(T, ("each", "u", "town"), *same, marks=["t"])
        self.assertEqual([[0, 1, 2, 3], [0, 1, 3, 2], [0, 2, 1, 3]], list(orders(plan))[:3])
        self.assertEqual(6, how_many(plan))

    def test_equal_items_that_stand_twice(self):
        self.check([[0, 1, 2], [0, 2, 1]], marked(W, CHEAP, CHEAP))
        # The call stands behind one of them: no order of two items each tells this.
        self.check([[0, 1, 2, 3], [0, 1, 3, 2], [0, 2, 1, 3], [0, 2, 3, 1]],
                   marked(W, CHEAP, CHEAP, LOG))

    def test_calls_of_one_stream_are_not_exchanged(self):
        again = ("call", "z", "log", (("w", "cost"),))
        self.check([[0, 1, 2]], marked(W, LOG, again))
        self.check([[0, 1, 2]], marked(W, LOG, PING))
        self.check([[0, 1, 2], [0, 2, 1]], marked(W, LOG, DRAW))

    def test_calls_that_are_alike_but_have_other_answers(self):
        first, second = ("call", "x", "ping", ()), ("call", "y", "ping", ())
        plan = marked(W, first, second)
        self.assertTrue(are_alike(plan, marked(W, second, first)))
        self.check([[0, 1, 2]], plan)

    def test_a_site_that_is_no_longer_live(self):
        clash = [("same", ("w", "cost"), 1), ("same", ("w", "cost"), 2)]
        self.check([[0, 1, 2, 3]], marked(W, clash[0], LOG, clash[1]))
        # A call that is not live behind a clash: it is ahead of nothing that the clash needs.
        found = list(orders(marked(W, *clash, LOG)))
        self.assertEqual([[0, 1, 2, 3], [0, 2, 1, 3]], found)

    def test_other_open_loops(self):
        self.check([[0, 1, 2]], planned(T, ("same", ("t", "id"), 7), PING))
        # The town is had by the ware, so that the call may be made without its loop: alike, but with another loop open.
        one, another = marked(W, T, MEET, PING), marked(W, PING, T, MEET)
        self.assertTrue(are_alike(one, another))
        self.check([[0, 1, 2, 3]], one)
        self.check([[0, 1, 2, 3]], another)

    def test_use_at_any_index(self):
        plan = planned(("use",), ALONE, CHEAP, kept=[W], marks=["w"])
        self.check([[0, 1, 2], [0, 2, 1], [1, 0, 2]], plan)
        self.check([[0, 1], [1, 0]], planned(ALONE, ("use",), kept=[("same", 1, 1)]))
        # The kept loop and the other one come in the order of the run.
        self.check([[0, 1]], planned(("use",), ("each", "v", "ware"), kept=[W], marks=["w", "v"]))
        self.check([[0, 1, 2, 3]], planned(W, LOG, ("use",), ("call", "z", "log", (1,)), kept=[T], marks=["w", "t"]))

    def test_references_by_which_a_call_may_stand_between_two_comparisons_or_the_other_two(self):
        schema = Schema({"c": ["a", "b"], "p": ["id"]}, {"log": (0, "effect")}, keys={"p": "id"},
                        references=[("c", "a", "p"), ("c", "b", "p")])
        items = [("each", "c", "c"), ("each", "p", "p"), ("same", ("p", "id"), ("c", "a")), ("call", "x", "log", ()),
                 ("same", ("p", "id"), ("c", "b"))]
        plan = Plan(schema, items, marks=["c"])
        self.check([[0, 1, 2, 3, 4], [0, 1, 4, 3, 2]], plan)
        self.assertEqual(right_orders(plan), list(orders(plan)))
        # No right order lies between them.
        self.assertEqual([2, 3, 2], exchanges(plan, [0, 1, 2, 3, 4], [0, 1, 4, 3, 2]))
        self.assertEqual([], next_items(plan, [0, 1, 2, 4]))
        self.assertIs(False, is_order(plan, [0, 1, 2, 4, 3]))

    def test_left_early_and_two_at_once(self):
        plan = marked(W, CHEAP, NOW, DEAR)
        expected = list(orders(plan))
        first, second = orders(plan), orders(plan)
        self.assertEqual(expected[:2], [next(first), next(first)])
        self.assertEqual(expected[0], next(second))
        self.assertEqual(expected[2:], list(first))
        first.close()
        next(second).clear()
        self.assertEqual(expected[2:], list(second))

    def test_each_list_is_new(self):
        plan = marked(W, CHEAP, NOW)
        found = list(orders(plan))
        found[0].append(9)
        self.assertEqual([[0, 1, 2], [0, 2, 1]], list(orders(plan)))
        order_at(plan, 0).clear()
        next_items(plan, [0]).clear()
        self.assertEqual([[0, 1, 2], [1, 2]], [order_at(plan, 0), next_items(plan, [0])])
        first, last = [0, 1, 2], [0, 2, 1]
        exchanges(plan, first, last).clear()
        self.assertEqual([[1], [0, 1, 2], [0, 2, 1]], [exchanges(plan, first, last), first, last])


class Next(unittest.TestCase):
    PLAN = marked(W, CHEAP, NOW, DEAR)

    def test_beginnings(self):
        self.assertEqual([0], next_items(self.PLAN, []))
        self.assertEqual([1, 2, 3], next_items(self.PLAN, [0]))
        self.assertEqual([1, 3], next_items(self.PLAN, [0, 2]))

    def test_whole_ones_and_those_that_no_order_begins_with(self):
        for begun in ([0, 1, 2, 3], [0, 3, 2, 1], [1], [0, 1, 1], [0, 0], [4], [0, -1], [0, 1, 2, 3, 0], [2, 0],
                      [0, 1, 2, 2], [10 ** 39], [0, 4]):
            self.assertEqual([], next_items(self.PLAN, begun))
        self.assertEqual([], next_items(planned(), []))

    def test_a_call_that_cannot_come_any_more(self):
        plan = marked(W, CHEAP, LOG, DEAR)
        self.assertEqual([1], next_items(plan, [0]))
        self.assertEqual([2], next_items(plan, [0, 1]))
        self.assertEqual([], next_items(plan, [0, 1, 3]))


class Exchanges(unittest.TestCase):
    def test_no_exchange_and_one(self):
        plan = marked(W, CHEAP, NOW)
        self.assertEqual([], exchanges(plan, [0, 1, 2], [0, 1, 2]))
        self.assertEqual([1], exchanges(plan, [0, 2, 1], [0, 1, 2]))
        self.assertEqual([], exchanges(planned(), [], []))

    def test_the_least_list(self):
        plan = marked(W, CHEAP, NOW, DEAR)
        self.assertEqual([1, 2, 1], exchanges(plan, [0, 1, 2, 3], [0, 3, 2, 1]))

    def test_one_of_two_equal_items_stays_ahead_of_the_call(self):
        plan = marked(W, CHEAP, LOG, CHEAP)
        self.assertEqual([2, 1, 2], exchanges(plan, [0, 1, 2, 3], [0, 3, 2, 1]))


class ByChance(unittest.TestCase):
    def test_all_permutations(self):
        chance = random.Random(80)
        many = several = 0
        while many < 60:
            plan = plain_plan(chance)
            if len(plan.main_items()) > 5:
                continue
            many += 1
            expected = right_orders(plan)
            several += len(expected) > 1
            self.assertEqual(expected, list(orders(plan)))
            self.assertEqual(len(expected), how_many(plan))
            self.check_numbers(plan, expected)
            self.check_beginnings(chance, plan, expected)
            for first, last in [chance.choices(expected, k=2) for _ in range(3)]:
                self.check_exchanges(plan, expected, first, last)
        self.assertGreater(several, 25)

    def check_numbers(self, plan, expected):
        for number, order in enumerate(expected[:8]):
            self.assertEqual(order, order_at(plan, number))
            self.assertEqual(number, number_of(plan, order))
        self.assertEqual(("NoNumber", len(expected)), error_of(lambda: order_at(plan, len(expected))))

    def check_beginnings(self, chance, plan, expected):
        indexes = range(len(plan.main_items()))
        for begun in [chance.sample(indexes, chance.randint(0, len(indexes))) for _ in range(8)]:
            behind = {order[len(begun)] for order in expected if order[:len(begun)] == begun and order != begun}
            self.assertEqual(sorted(behind), next_items(plan, begun))
            self.assertIs(begun in expected, is_order(plan, begun))

    def check_exchanges(self, plan, expected, first, last):
        steps = exchanges(plan, first, last)
        self.assertEqual(fewest_exchanges(expected, first, last), steps)
        apart = [pair for pair in itertools.combinations(first, 2) if last.index(pair[0]) > last.index(pair[1])]
        self.assertEqual(len(apart), len(steps))


class Large(unittest.TestCase):
    def test_ten_items_in_any_order(self):
        self.assertEqual(3628800, how_many(TEN))
        self.assertEqual(list(itertools.islice(itertools.permutations(range(10)), 4)),
                         [tuple(order) for order in itertools.islice(orders(TEN), 4)])
        self.assertEqual([9, 8, 7, 6, 5, 4, 3, 2, 1, 0], order_at(TEN, 3628799))
        self.assertEqual(1234567, number_of(TEN, order_at(TEN, 1234567)))
        self.assertEqual([0, 1, 2, 4, 5, 6, 7, 8], next_items(TEN, [9, 3]))
        self.assertEqual(45, len(exchanges(TEN, list(range(10)), list(range(10))[::-1])))
        self.assertIs(True, is_order(TEN, [9, 1, 8, 2, 7, 3, 6, 4, 5, 0]))

    def test_four_loops(self):
        loops = [("each", loop, "town") for loop in "abcd"]
        calls = [("call", name, "fix", (at,)) for at, name in enumerate("efghij")]
        plan = planned(*loops, *calls, marks=list("abcd"))
        self.assertEqual(151200, how_many(plan))
        self.assertEqual([0, 1, 2, 3, 4, 5, 6, 7, 9, 8], order_at(plan, 1))

    def test_four_loops_that_integers_settle_in_any_order(self):
        loops = [("each", loop, "town") for loop in "abcd"]
        joins = [("same", (loop, "id"), at) for at, loop in enumerate("abcd")]
        plan = planned(*loops, *joins, ("same", ("a", "id"), 0), ("call", "z", "log", (1,)))
        self.assertEqual(how_many(plan), number_of(plan, order_at(plan, how_many(plan) - 1)) + 1)
        self.assertEqual([0, 1, 2, 3, 4, 5, 6, 7, 8, 9], order_at(plan, 0))


if __name__ == "__main__":
    unittest.main()
