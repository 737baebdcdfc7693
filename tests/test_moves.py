"""Moves of all forms, how they are judged, and plans made shorter by them [81] [11]."""

import random
import unittest

from lands import planned
from pairings import plain_plan
from plancalls.alike import are_alike
from plancalls.errors import PlanError
from plancalls.moves import alike_moves, judged, moved, shortened
from plancalls.parting import is_case
from plancalls.plans import Plan
from plancalls.schemas import Schema
from plancalls.sites import is_plain
from things import Equal, error_of, of_all_sorts

W, T, P = ("each", "w", "ware"), ("each", "t", "town"), ("each", "p", "part")
MEET = ("same", ("t", "id"), ("w", "town"))
LOG, DRAW = ("call", "x", "log", (("w", "cost"),)), ("call", "d", "draw", (3,))
NOW, AGAIN = [("call", name, "now", (("w", "cost"),)) for name in "nm"]
FIX = ("call", "f", "fix", (("w", "cost"),))
CHEAP = ("same", ("w", "cost"), 1)


def marked(*items, shown=(), kept=()):
    return planned(*items, shown=shown, marks=["w"], kept=kept)


class Case(unittest.TestCase):
    def check(self, expected, plan, move):
        self.assertEqual(expected, moved(plan, move))

    def refuse(self, plan, *moves):
        for move in moves:
            with self.subTest(move):
                self.assertEqual(("NoMove",), error_of(lambda: moved(plan, move)))
                self.assertEqual(("NoMove",), error_of(lambda: judged(plan, move)))


class AnyValue(Case):
    def test_other_values(self):
        self.refuse(marked(W, CHEAP, NOW), *of_all_sorts())

    def test_moves_told_otherwise(self):
        self.refuse(marked(W, CHEAP, NOW), ["swap", 1], ("swap",), ("swap", 1, 2), ("swop", 1), ("Swap", 1),
                    (1, "swap"), ("drop",), ("drop", 1, 1), ("keep", 2, 0), ("join", 2), ("join", 2, "n", "n"),
                    ("column", 2, "w"),
                    ("column", 2, ("w", "cost")), ("column", 2, "w", "cost", "n"), ("term", 1, 0), ("term", 1, 0, 1, 1),
                    ("move", 1, 2), ("", 1), (("swap", 1),), ((), 1), (Equal(), 1), (["swap"], 1), ({}, 1), (None, 1))

    def test_indexes_that_are_none(self):
        plan = marked(W, CHEAP, NOW)
        for at in (True, False, "1", None, -1, -2, -3, (1,), [1], Equal(), 10 ** 40, -10 ** 40):
            self.refuse(plan, ("swap", at), ("drop", at), ("join", at, "n"), ("column", at, "w", "cost"), ("keep", at),
                        ("term", at, 0, 1), ("term", 1, at, 1))

    def test_great_values(self):
        plan = marked(W, NOW, AGAIN, shown=["n"])
        deep, wide = 1, tuple(range(9990))
        for _ in range(11):
            deep = (deep,)
        self.refuse(plan, wide, list(wide), deep, "swap 0" * 1000, ("9" * 5000, 1), ("swap", 10 ** 39), ("drop",
                                                                                                         -10 ** 39),
                    ("term", 1, 0, wide), ("term", 1, 0, deep), ("term", 1, 0, "9" * 5000), ("term", 1, 10 ** 39, 0),
                    ("join", 2, wide), ("join", 2, "n" * 9990), ("column", 2, wide, deep), ("column", 2, "w", deep),
                    ("swap", *wide), ("term", *wide))

    def test_names_and_terms_of_all_sorts(self):
        plan = marked(W, NOW, AGAIN, shown=["n"])
        for thing in of_all_sorts():
            self.refuse(plan, ("join", 2, thing), ("column", 2, thing, "cost"), ("column", 2, "w", thing))
            if not isinstance(thing, int) or isinstance(thing, bool):
                self.refuse(plan, ("term", 1, 0, thing), ("term", 3, 0, thing))


class Swap(Case):
    def test_neighbours(self):
        plan = marked(W, CHEAP, NOW, shown=["n"])
        self.check(marked(W, NOW, CHEAP, shown=["n"]), plan, ("swap", 1))
        self.check(planned(("use",), CHEAP[:1] + (1, 1), kept=[W]), planned(CHEAP[:1] + (1, 1), ("use",), kept=[W]),
                   ("swap", 0))

    def test_the_last_item_and_one_beyond(self):
        self.refuse(marked(W, CHEAP, NOW), ("swap", 2), ("swap", 3))
        self.refuse(planned(), ("swap", 0))

    def test_what_reads_the_other_one(self):
        self.refuse(marked(W, CHEAP), ("swap", 0))
        self.refuse(marked(W, NOW, ("same", "n", 1)), ("swap", 1))
        self.refuse(planned(("use",), CHEAP, kept=[W]), ("swap", 0))


class Drop(Case):
    def test_comparisons_calls_and_loops(self):
        plan = marked(W, T, NOW, CHEAP, ("unlike", 1, 2))
        self.check(marked(W, NOW, CHEAP, ("unlike", 1, 2)), plan, ("drop", 1))
        self.check(marked(W, T, CHEAP, ("unlike", 1, 2)), plan, ("drop", 2))
        self.check(marked(W, T, NOW, ("unlike", 1, 2)), plan, ("drop", 3))
        self.check(marked(W, T, NOW, CHEAP), plan, ("drop", 4))
        self.refuse(plan, ("drop", 5))
        self.check(planned(), planned(W), ("drop", 0))

    def test_loops_that_are_read_or_marked(self):
        self.refuse(planned(W, CHEAP), ("drop", 0))
        self.refuse(planned(W, NOW), ("drop", 0))
        self.refuse(planned(W, shown=[("w", "cost")]), ("drop", 0))
        self.refuse(marked(W), ("drop", 0))

    def test_calls_that_are_read(self):
        self.refuse(marked(W, NOW, ("same", 1, "n")), ("drop", 1))
        self.refuse(marked(W, NOW, ("call", "m", "now", ("n",))), ("drop", 1))
        self.refuse(marked(W, NOW, shown=["n"]), ("drop", 1))

    def test_calls_of_changing_and_effect_functions_and_use(self):
        self.refuse(marked(W, LOG, DRAW), ("drop", 1), ("drop", 2))
        self.refuse(planned(("use",), kept=[W]), ("drop", 0))


class Join(Case):
    def test_an_answer_ahead(self):
        plan = marked(W, NOW, AGAIN, ("same", "m", "n"), ("call", "x", "log", ("m",)), shown=["m", 1, "m"])
        self.check(marked(W, NOW, ("same", "n", "n"), ("call", "x", "log", ("n",)), shown=["n", 1, "n"]), plan,
                   ("join", 2, "n"))

    def test_a_kept_answer(self):
        kept = [("call", "k", "now", (1,))]
        plan = planned(("use",), ("call", "n", "now", (2,)), shown=["n"], kept=kept)
        self.check(planned(("use",), shown=["k"], kept=kept), plan, ("join", 1, "k"))
        self.refuse(planned(("call", "n", "now", (2,)), ("use",), shown=["n"], kept=kept), ("join", 0, "k"))

    def test_other_functions_calls_behind_itself_and_none(self):
        plan = marked(W, NOW, FIX, AGAIN, LOG)
        self.refuse(plan, ("join", 1, "m"), ("join", 2, "n"), ("join", 3, "f"), ("join", 3, "m"), ("join", 3, "x"),
                    ("join", 3, "z"), ("join", 3, "w"), ("join", 3, ""), ("join", 3, 1), ("join", 5, "n"),
                    ("join", 0, "n"), ("join", 4, "n"))
        self.check(marked(W, NOW, FIX, LOG), plan, ("join", 3, "n"))

    def test_a_table_and_an_answer_with_the_name_of_the_function(self):
        schema = Schema({"f": ["x"]}, {"f": (0, "fixed")})
        items = [("each", "l", "f"), ("call", "f", "f", ()), ("same", "f", "f"), ("call", "a", "f", ())]
        plan = Plan(schema, items, marks=["l"])
        self.refuse(plan, ("join", 3, "l"), ("join", 1, "l"), ("join", 3, "same"))
        self.check(Plan(schema, items[:3], marks=["l"]), plan, ("join", 3, "f"))

    def test_calls_of_changing_and_effect_functions(self):
        again = ("call", "y", "log", (("w", "cost"),))
        self.refuse(marked(W, LOG, again), ("join", 2, "x"))
        self.refuse(planned(DRAW, ("call", "e", "draw", (3,))), ("join", 1, "d"))


class Column(Case):
    def test_a_column_of_an_open_loop(self):
        plan = marked(W, T, FIX, ("unlike", "f", ("t", "near")), shown=["f", 2])
        self.check(marked(W, T, ("unlike", ("w", "net"), ("t", "near")), shown=[("w", "net"), 2]), plan,
                   ("column", 2, "w", "net"))
        self.check(marked(W, T, ("unlike", ("t", "id"), ("t", "near")), shown=[("t", "id"), 2]), plan,
                   ("column", 2, "t", "id"))

    def test_loops_that_are_not_open_and_other_names(self):
        plan = marked(W, FIX, T, ("call", "g", "fix", (4,)), ("same", "f", 1))
        self.refuse(plan, ("column", 1, "t", "id"), ("column", 1, "w", "id"), ("column", 1, "f", "net"),
                    ("column", 1, "z", "net"), ("column", 1, "w", ""), ("column", 0, "w", "net"),
                    ("column", 2, "w", "net"), ("column", 4, "w", "net"), ("column", 5, "w", "net"))
        # Not even where no term reads the answer.
        self.refuse(plan, ("column", 3, "w", "id"), ("column", 3, "z", "id"), ("column", 3, "t", "cost"))
        self.check(marked(W, FIX, T, ("same", "f", 1)), plan, ("column", 3, "t", "id"))

    def test_kept_loops(self):
        call = ("call", "f", "fix", (4,))
        self.check(planned(("use",), shown=[("w", "net")], kept=[W], marks=["w"]),
                   planned(("use",), call, shown=["f"], kept=[W], marks=["w"]), ("column", 1, "w", "net"))
        self.refuse(planned(call, ("use",), shown=["f"], kept=[W], marks=["w"]), ("column", 0, "w", "net"))

    def test_calls_of_changing_and_effect_functions(self):
        self.refuse(marked(W, LOG, DRAW), ("column", 1, "w", "net"), ("column", 2, "w", "net"))


class Keep(Case):
    def test_without_kept_items(self):
        call = ("call", "f", "fix", (4,))
        self.check(marked(("use",), W, CHEAP, shown=["f"], kept=[call]), marked(W, call, CHEAP, shown=["f"]),
                   ("keep", 1))
        self.check(planned(("use",), kept=[call]), planned(call), ("keep", 0))

    def test_with_kept_items(self):
        call = ("call", "f", "fix", (("w", "cost"),))
        self.check(planned(T, ("use",), kept=[W, call], marks=["t"]), planned(T, ("use",), call, kept=[W], marks=["t"]),
                   ("keep", 2))
        plan = planned(("use",), ("call", "g", "add", ("f", 2)), kept=[W, call], shown=["g"])
        self.check(planned(("use",), kept=[W, call, ("call", "g", "add", ("f", 2))], shown=["g"]), plan, ("keep", 1))

    def test_terms_of_main_items(self):
        self.refuse(marked(W, NOW), ("keep", 1))
        first, second = ("call", "f", "fix", (1,)), ("call", "g", "fix", ("f",))
        self.refuse(planned(first, second), ("keep", 1))
        self.refuse(planned(("use",), T, ("call", "g", "fix", (("t", "id"),)), kept=[W]), ("keep", 2))

    def test_answers_that_are_read_ahead_of_use(self):
        call = ("call", "f", "fix", (4,))
        self.refuse(planned(call, ("same", "f", 1), ("use",), kept=[W]), ("keep", 0))
        plan = planned(call, ("use",), ("same", "f", 1), kept=[W])
        self.check(planned(("use",), ("same", "f", 1), kept=[W, call]), plan, ("keep", 0))

    def test_other_items_and_calls_of_changing_functions(self):
        self.refuse(planned(W, DRAW, ("call", "x", "log", (1,)), ("same", 1, 1)), ("keep", 0), ("keep", 1), ("keep", 2),
                    ("keep", 3), ("keep", 4))
        self.refuse(planned(("use",), kept=[W]), ("keep", 0))


class Term(Case):
    def test_calls_comparisons_and_shown_terms(self):
        add = ("call", "a", "add", (1, 2))
        plan = marked(W, add, CHEAP, shown=["a", 3])
        self.check(marked(W, ("call", "a", "add", (("w", "net"), 2)), CHEAP, shown=["a", 3]), plan,
                   ("term", 1, 0, ("w", "net")))
        self.check(marked(W, ("call", "a", "add", (1, -7)), CHEAP, shown=["a", 3]), plan, ("term", 1, 1, -7))
        self.check(marked(W, add, ("same", "a", 1), shown=["a", 3]), plan, ("term", 2, 0, "a"))
        self.check(marked(W, add, ("same", ("w", "cost"), "a"), shown=["a", 3]), plan, ("term", 2, 1, "a"))
        self.check(marked(W, add, CHEAP, shown=[4, 3]), plan, ("term", 3, 0, 4))
        self.check(marked(W, add, CHEAP, shown=["a", "a"]), plan, ("term", 3, 1, "a"))
        self.check(plan, plan, ("term", 3, 1, 3))
        self.check(planned(("same", 1, 5)), planned(("same", 1, 2)), ("term", 0, 1, 5))
        self.check(planned(shown=[5, 2]), planned(shown=[1, 2]), ("term", 0, 0, 5))

    def test_k_out_of_range(self):
        plan = marked(W, ("call", "a", "add", (1, 2)), CHEAP, shown=["a", 3])
        for at, k in [(1, 2), (1, -1), (2, 2), (2, -1), (3, 2), (3, -1), (4, 0), (0, 0), (0, 1), (2, True), (2, None)]:
            self.refuse(plan, ("term", at, k, 0))
        self.refuse(plan, ("term", 0, 1, "ware"))
        self.refuse(planned(("use",), kept=[W]), ("term", 0, 0, 0), ("term", 1, 0, 0))
        self.refuse(planned(("call", "y", "ping", ())), ("term", 0, 0, 0))

    def test_terms_that_are_none_there(self):
        plan = marked(W, FIX, T, CHEAP, shown=[1])
        self.refuse(plan, ("term", 1, 0, "f"), ("term", 1, 0, ("t", "id")), ("term", 1, 0, ("w", "id")),
                    ("term", 1, 0, True), ("term", 4, 0, "w"), ("term", 4, 0, ("f", "id")),
                    ("term", 3, 0, ["w", "cost"]))

    def test_kept_items_have_no_index(self):
        plan = planned(("use",), kept=[("same", 1, 1)], shown=[5])
        self.refuse(plan, ("term", 0, 0, 2), ("term", 2, 0, 2))
        self.check(planned(("use",), kept=[("same", 1, 1)], shown=[2]), plan, ("term", 1, 0, 2))


class Judged(Case):
    def test_alike_and_parted(self):
        plan = marked(W, CHEAP, NOW, LOG)
        word, found = judged(plan, ("swap", 1))
        self.assertEqual(("alike", marked(W, NOW, CHEAP, LOG)), (word, found))
        for move in [("drop", 1), ("term", 1, 1, 2), ("term", 3, 0, 0)]:
            word, case = judged(plan, move)
            self.assertEqual("parted", word)
            self.assertIs(True, is_case(plan, moved(plan, move), case))

    def test_no_move_then_loose_then_hidden_of_the_plan_then_of_the_moved_one(self):
        loose, hidden = planned(("use",), W, ("same", 1, 1), kept=[DRAW]), planned(W, ("same", 1, 1))
        self.assertEqual(("NoMove",), error_of(lambda: judged(loose, ("swap", 3))))
        self.assertEqual(("NoMove",), error_of(lambda: judged(hidden, None)))
        self.assertEqual(("Loose", 0), error_of(lambda: judged(loose, ("drop", 2))))
        self.assertEqual(("Hidden", 2, "w"), error_of(lambda: judged(hidden, ("drop", 1))))
        settled = planned(T, ("same", ("t", "id"), 4))
        self.assertEqual(("Hidden", 1, "t"), error_of(lambda: judged(settled, ("drop", 1))))
        self.assertEqual("alike", judged(planned(T, ("same", 1, 2)), ("swap", 0))[0])

    def test_hidden_in_both(self):
        plan = planned(W, T, ("same", 1, 1))
        self.assertEqual(("Hidden", 3, "w"), error_of(lambda: judged(plan, ("drop", 2))))


class AlikeMoves(Case):
    def test_those_of_all_forms(self):
        join = ("same", "n", "m")
        plan = marked(W, ("call", "f", "fix", (4,)), NOW, AGAIN, join, FIX[:1] + ("g",) + FIX[2:], shown=["m", "g"])
        expected = [("column", 1, "w", "all"), ("column", 1, "w", "cost"), ("column", 1, "w", "net"),
                    ("column", 1, "w", "town"), ("column", 5, "w", "net"), ("drop", 1), ("drop", 4), ("join", 3, "n"),
                    ("keep", 1), ("swap", 0), ("swap", 1), ("swap", 2), ("swap", 4)]
        self.assertEqual(expected, alike_moves(plan))

    def test_answers_that_ascend(self):
        calls = [("call", name, "now", (1,)) for name in "cab"]
        moves = alike_moves(planned(*calls, shown=["a", "b", "c"]))
        self.assertEqual([("join", 1, "c"), ("join", 2, "a"), ("join", 2, "c"), ("keep", 0), ("keep", 1), ("keep", 2),
                          ("swap", 0), ("swap", 1)], moves)

    def test_none(self):
        self.assertEqual([], alike_moves(planned()))
        self.assertEqual([], alike_moves(marked(W, LOG)))

    def test_moved_plans_that_are_not_plain_and_parted_ones(self):
        # Without the comparison the town is hidden, and calls of one function with other arguments are told apart.
        plan = planned(T, ("same", ("t", "id"), 4), ("call", "x", "log", (1,)), ("call", "y", "log", (2,)))
        self.assertEqual([], alike_moves(plan))
        alike = planned(T, ("same", ("t", "id"), 4), ("call", "x", "log", (1,)), ("call", "y", "log", (1,)))
        self.assertEqual([("swap", 2)], alike_moves(alike))

    def test_loose_then_hidden(self):
        for call in (alike_moves, shortened):
            self.assertEqual(("Loose", 0), error_of(lambda: call(planned(("use",), W, kept=[DRAW]))))
            self.assertEqual(("Hidden", 1, "w"), error_of(lambda: call(planned(W))))

    def test_each_list_is_new(self):
        plan = marked(W, CHEAP, NOW)
        alike_moves(plan).clear()
        self.assertEqual([("column", 2, "w", "all"), ("column", 2, "w", "cost"), ("column", 2, "w", "net"),
                          ("column", 2, "w", "town"), ("drop", 2), ("swap", 1)], alike_moves(plan))


class Shortened(Case):
    def test_over_several_steps(self):
        # First the column, then one of the comparisons, and the call again of the same terms.
        plan = marked(W, FIX, CHEAP, ("same", "f", ("w", "net")), NOW, AGAIN, ("call", "x", "log", ("m",)), shown=["n"])
        self.assertEqual(marked(W, CHEAP, NOW, ("call", "x", "log", ("n",)), shown=["n"]), shortened(plan))

    def test_loops_that_only_look_up(self):
        # The loop cannot go ahead of the comparison, nor this one ahead of the loop, which it settles.
        plan = marked(W, T, MEET, LOG)
        self.assertTrue(are_alike(plan, marked(W, LOG)))
        self.assertEqual(plan, shortened(plan))

    def test_the_least_move_comes_first(self):
        # The column of the least loop and name of those with the same value.
        plan = planned(("each", "w", "ware"), ("each", "v", "ware"), FIX, ("same", ("v", "cost"), ("w", "cost")),
                       shown=["f"], marks=["v", "w"])
        self.assertEqual([("v", "net")], shortened(plan).shown())

    def test_none_to_take(self):
        plan = marked(W, CHEAP, LOG)
        self.assertEqual(plan, shortened(plan))
        self.assertEqual(planned(), shortened(planned()))
        swaps_alone = marked(W, CHEAP, NOW, shown=["n"])
        self.assertEqual(swaps_alone, shortened(swaps_alone))


class ByChance(unittest.TestCase):
    def test_moves_judged(self):
        chance = random.Random(81)
        words = {"alike": 0, "parted": 0}
        for _ in range(150):
            plan = plain_plan(chance)
            for move in self.some_moves(chance, plan):
                try:
                    word, thing = judged(plan, move)
                except PlanError:
                    continue
                words[word] += 1
                other = moved(plan, move)
                self.assertIs(word == "alike", are_alike(plan, other))
                self.assertTrue(thing == other if word == "alike" else is_case(plan, other, thing))
        self.assertGreater(min(words.values()), 60)

    def test_all_moves_that_are_alike(self):
        chance = random.Random(811)
        for _ in range(40):
            plan = plain_plan(chance)
            many = len(plan.main_items())
            moves = [(word, at) for word in ("drop", "keep", "swap") for at in range(-1, many + 1)]
            moves += [("join", at, answer) for at in range(many) for answer in plan.answers()]
            moves += [("column", at, loop, column) for at in range(many) for loop in plan.loops()
                      for column in plan.schema.columns(plan.table_of(loop))]
            expected = [move for move in moves if self.is_alike(plan, move)]
            self.assertEqual(sorted(expected), alike_moves(plan))
            self.check_shortened(plan)

    def is_alike(self, plan, move):
        try:
            return judged(plan, move)[0] == "alike"
        except PlanError:
            return False

    def check_shortened(self, plan):
        left = plan
        moves = [move for move in alike_moves(left) if move[0] in ("column", "drop", "join")]
        while moves:
            left = moved(left, moves[0])
            moves = [move for move in alike_moves(left) if move[0] in ("column", "drop", "join")]
        self.assertEqual(left, shortened(plan))
        self.assertTrue(is_plain(left) and are_alike(plan, left))

    def some_moves(self, chance, plan):
        """Return some moves of all forms, and what is none."""
        many, terms = len(plan.main_items()), [0, 1, *plan.answers()]
        terms += [(loop, column) for loop in plan.loops() for column in plan.schema.columns(plan.table_of(loop))]
        names = plan.answers() + plan.loops() + ["none"]
        found = [(chance.choice(["swap", "drop", "keep"]), chance.randint(0, many)) for _ in range(4)]
        found += [("join", chance.randint(0, many), chance.choice(names)) for _ in range(2)]
        found += [("term", chance.randint(0, many), chance.randint(0, 1), chance.choice(terms)) for _ in range(3)]
        columns = [term for term in terms if isinstance(term, tuple)] or [("w", "x")]
        return found + [("column", chance.randint(0, many), *chance.choice(columns))]


class Large(unittest.TestCase):
    def test_ten_steps_and_four_loops(self):
        loops = [("each", loop, "ware") for loop in "abcd"]
        calls = [("call", name, "add", (("a", "net"), ("a", "town"))) for name in "efghij"]
        plan = planned(*loops, *calls, shown=["e", "h", "i", "j"], marks=list("abcd"))
        self.assertEqual(planned(*loops, shown=[("a", "all")] * 4, marks=list("abcd")), shortened(plan))
        moves = alike_moves(plan)
        # No term reads f and g, so that any column will do there.
        many = [len([move for move in moves if move[0] == word]) for word in ("column", "drop", "join", "keep", "swap")]
        self.assertEqual([4 + 2 * 16, 2, 15, 0, 6], many)

    def test_great_integers_and_plans_that_stay(self):
        plan = Plan(planned().schema, [W, ("same", ("w", "cost"), 10 ** 40 - 1)], marks=["w"])
        self.assertEqual(plan, moved(moved(plan, ("term", 1, 1, 5)), ("term", 1, 1, 10 ** 40 - 1)))


if __name__ == "__main__":
    unittest.main()
