"""Assignments, which of them work, the freest ones, what stops others, and papers [7] [71] [72]."""

import inspect
import itertools
import random
import unittest

from lands import CHAIN, planned
from pairings import changed_plan, plain_plan
from plancalls.alike import are_alike
from plancalls.answers import Answers
from plancalls.contents import Contents
from plancalls.freest import assigned, assignments, freest, freest_paper, is_freest_paper, stop, works
from plancalls.kinds import KINDS
from plancalls.parting import is_case
from plancalls.plans import Plan
from plancalls.schemas import Schema
from plancalls.sites import is_plain
from things import error_of, of_all_sorts

BARE = Schema({"one": ["a", "b"]}, {"f": (1, "fixed"), "g": (0, "stable"), "h": (1, "effect"), "i": (0, "changing")})
O = ("each", "o", "one")
F, G = ("call", "x", "f", (("o", "a"),)), ("call", "y", "g", ())
TEST = ("unlike", ("o", "b"), 0)


def bare(*items, shown=(), marks=("o",), kept=(), schema=BARE):
    return Plan(schema, list(items), shown, marks=marks, kept=kept)


# Alike for every kind; only if f is bound; only if not both are effects; never alike.
ALIKE = (bare(O, F, G), bare(O, F, G))
EARLY = (bare(O, F, TEST), bare(O, TEST, F))
CROSSED = (bare(O, F, G), bare(O, G, F))
NEVER = (bare(O), bare(O, shown=[1]))


class Assigned(unittest.TestCase):
    def test_kinds(self):
        plan = assigned(bare(O, F, G, shown=["x"]), (("f", "changing"), ("g", "effect")))
        self.assertEqual(["changing", "effect", "effect", "changing"], [plan.schema.kind(name) for name in "fghi"])
        self.assertTrue(plan == bare(O, F, G, shown=["x"], schema=BARE.with_kinds({"f": "changing", "g": "effect"})))
        self.assertTrue(assigned(bare(O), ()) == bare(O))


class Assignments(unittest.TestCase):
    def test_all_of_them_in_ascending_order(self):
        kinds = ["changing", "effect", "stable"]
        expected = [(("f", one), ("g", other)) for one in kinds for other in kinds]
        found = list(assignments(*ALIKE))
        self.assertEqual(expected, found)
        self.assertEqual(sorted(found), found)

    def test_functions_of_both_plans(self):
        found = list(assignments(bare(O, F), bare(O, G)))
        self.assertEqual([("f", "g")] * 9, [tuple(name for name, _ in assignment) for assignment in found])

    def test_no_function(self):
        self.assertEqual([()], list(assignments(*NEVER)))
        self.assertEqual([()], freest(bare(O), bare(O)))
        self.assertEqual([], freest(*NEVER))

    def test_functions_of_made_columns_and_functions_that_no_item_calls(self):
        plan = Plan(CHAIN, [("call", "x", "inc", (1,)), ("call", "y", "const", ()), ("call", "z", "log", (1,))])
        self.assertEqual([(("log", kind),) for kind in ["changing", "effect", "stable"]], list(assignments(plan, plan)))

    def test_kept_calls(self):
        plan = bare(("use",), O, kept=[("call", "y", "g", ())])
        self.assertEqual([(("g", kind),) for kind in ["changing", "effect", "stable"]], list(assignments(plan, plan)))

    def test_four_functions(self):
        plan = bare(O, F, G, ("call", "z", "h", ("x",)), ("call", "w", "i", ()))
        found = list(assignments(plan, plan))
        kinds = ["changing", "effect", "stable"]
        self.assertEqual([tuple(zip("fghi", some)) for some in itertools.product(kinds, repeat=4)], found)
        self.assertEqual([tuple((name, "effect") for name in "fghi")], freest(plan, plan))

    def test_a_generator_that_is_left_early_and_two_side_by_side(self):
        self.assertTrue(inspect.isgeneratorfunction(assignments))
        one, other = assignments(*ALIKE), assignments(*ALIKE)
        first = [next(one), next(one), next(other), next(one), next(other)]
        one.close()
        left = list(other)
        expected = list(assignments(*ALIKE))
        self.assertEqual([expected[at] for at in [0, 1, 0, 2, 1]], first)
        self.assertEqual(expected[2:], left)


class Works(unittest.TestCase):
    def test_alike_plans(self):
        for assignment in assignments(*ALIKE):
            self.assertIs(True, works(*ALIKE, assignment))
        self.assertEqual([(("f", "effect"), ("g", "effect"))], freest(*ALIKE))

    def test_calls_ahead_of_a_comparison(self):
        kinds = ["changing", "effect", "stable"]
        self.assertEqual([False, False, True], [works(*EARLY, (("f", kind),)) for kind in kinds])
        self.assertEqual([(("f", "stable"),)], freest(*EARLY))

    def test_several_freest_assignments(self):
        expected = [(("f", "changing"), ("g", "effect")), (("f", "effect"), ("g", "changing"))]
        self.assertEqual(expected, freest(*CROSSED))
        self.assertIs(False, works(*CROSSED, (("f", "effect"), ("g", "effect"))))
        self.assertIs(True, works(*CROSSED, (("f", "changing"), ("g", "changing"))))

    def test_plans_that_are_not_plain(self):
        loose = bare(O, ("use",), kept=[("call", "x", "f", (1,))])
        self.assertEqual([False, False, True],
                         [works(loose, loose, (("f", kind),)) for kind in ["changing", "effect", "stable"]])
        hidden = bare(O, F, marks=[])
        self.assertEqual([False] * 3, [works(hidden, hidden, one) for one in assignments(hidden, hidden)])
        self.assertEqual([], freest(hidden, hidden))

    def test_every_kind_of_which_none_is_freer(self):
        chance = random.Random(71)
        many = 0
        for _ in range(40):
            one = plain_plan(chance)
            other = changed_plan(chance, one)
            if other is None:
                continue
            told = list(assignments(one, other))[:27]
            good = [some for some in told if works(one, other, some)]
            for some in told:
                first, second = assigned(one, some), assigned(other, some)
                expected = is_plain(first) and is_plain(second) and are_alike(first, second)
                self.assertIs(expected, some in good)
                self.assertIs(some in good, any(self.as_bound(some, best) for best in good))
                many += some in good and some != told[0]
            if len(told) < 27:
                best = [some for some in good if not any(some != more and self.as_bound(some, more) for more in good)]
                self.assertEqual(best, freest(one, other))
        self.assertGreater(many, 30)

    def as_bound(self, one, other):
        return all(KINDS.index(first[1]) <= KINDS.index(second[1]) for first, second in zip(one, other))


class Stop(unittest.TestCase):
    def test_nothing_stops_what_works(self):
        for assignment in assignments(*CROSSED):
            self.assertIs(works(*CROSSED, assignment), stop(*CROSSED, assignment) is None)

    def test_parted(self):
        word, case = stop(*EARLY, (("f", "effect"),))
        self.assertEqual("parted", word)
        self.assertTrue(is_case(*[assigned(plan, (("f", "effect"),)) for plan in EARLY], case))
        self.assertEqual("parted", stop(*NEVER, ())[0])

    def test_loose_and_hidden_of_either_plan(self):
        plain, hidden = bare(O, F), bare(O, F, marks=[])
        loose = bare(O, ("use",), ("same", 1, 1), kept=[("same", 1, 1), ("call", "x", "f", (1,))])
        both = bare(O, ("use",), ("same", 1, 1), kept=[("call", "x", "f", (1,))], marks=[])
        assignment = (("f", "effect"),)
        for one, other, expected in [
                (plain, loose, ("loose", 1, 1)), (loose, plain, ("loose", 0, 1)), (loose, both, ("loose", 0, 1)),
                (both, loose, ("loose", 0, 0)), (plain, hidden, ("hidden", 1, 1, "o")),
                (hidden, plain, ("hidden", 0, 1, "o")), (hidden, loose, ("hidden", 0, 1, "o")),
                (loose, hidden, ("loose", 0, 1)), (hidden, both, ("hidden", 0, 1, "o"))]:
            self.assertEqual(expected, stop(one, other, assignment))
        self.assertEqual(("hidden", 0, 4, "o"), stop(both, loose, (("f", "stable"),)))
        self.assertEqual(("hidden", 1, 2, "o"), stop(plain, hidden, (("f", "stable"),)))


class Paper(unittest.TestCase):
    def check(self, one, other):
        """Check a paper and return it."""
        paper = freest_paper(one, other)
        self.assertIs(tuple, type(paper))
        goods, bads = paper
        self.assertEqual(freest(one, other), goods)
        self.assertIs(True, is_freest_paper(one, other, goods, bads))
        told = [bad[0] for bad in bads]
        self.assertEqual(sorted(told), told)
        for assignment, found in bads:
            self.assertEqual(stop(one, other, assignment)[0], found[0])
            for lower in assignments(one, other):
                if lower != assignment and all(KINDS.index(a[1]) <= KINDS.index(b[1])
                                               for a, b in zip(lower, assignment)):
                    self.assertIs(True, works(one, other, lower))
        return paper

    def test_papers(self):
        self.assertEqual(([(("f", "effect"), ("g", "effect"))], []), self.check(*ALIKE))
        goods, bads = self.check(*EARLY)
        self.assertEqual([(("f", "stable"),)], goods)
        self.assertEqual([((("f", "changing"),), "parted")], [(bad[0], bad[1][0]) for bad in bads])
        goods, bads = self.check(*CROSSED)
        self.assertEqual([(("f", "effect"), ("g", "effect"))], [bad[0] for bad in bads])
        goods, bads = self.check(*NEVER)
        self.assertEqual(([], [()]), (goods, [bad[0] for bad in bads]))

    def test_papers_of_plans_that_are_not_plain(self):
        loose = bare(O, ("use",), kept=[("call", "x", "f", (1,))])
        self.assertEqual(([(("f", "stable"),)], [((("f", "changing"),), ("loose", 0, 0))]), self.check(loose, loose))
        hidden = bare(O, F, G, marks=[])
        bads = [((("f", "stable"), ("g", "stable")), ("hidden", 0, 3, "o"))]
        self.assertEqual(([], bads), self.check(hidden, hidden))

    def test_many_papers(self):
        chance = random.Random(72)
        for _ in range(25):
            one = plain_plan(chance)
            other = changed_plan(chance, one)
            if other is not None and len(list(assignments(one, other))) < 27:
                self.check(one, other)

    def test_papers_that_lack_an_assignment_or_have_one_too_many(self):
        goods, bads = freest_paper(*CROSSED)
        for some in [goods[:1], goods[1:], []]:
            self.assertIs(False, is_freest_paper(*CROSSED, some, bads))
        self.assertIs(False, is_freest_paper(*CROSSED, goods, []))
        self.assertIs(False, is_freest_paper(*CROSSED, goods + [bads[0][0]], bads))
        self.assertIs(False, is_freest_paper(*CROSSED, goods, bads + [(goods[0], bads[0][1])]))

    def test_further_assignments_that_are_right(self):
        goods, bads = freest_paper(*CROSSED)
        every = [some for some in assignments(*CROSSED) if works(*CROSSED, some)]
        self.assertIs(True, is_freest_paper(*CROSSED, every, bads))
        self.assertIs(True, is_freest_paper(*CROSSED, goods[::-1] + goods, bads + bads))
        goods, bads = freest_paper(*EARLY)
        more = [((("f", "effect"),), stop(*EARLY, (("f", "effect"),)))]
        self.assertIs(True, is_freest_paper(*EARLY, goods, bads + more))
        self.assertIs(False, is_freest_paper(*EARLY, goods, more))
        self.assertIs(False, is_freest_paper(*EARLY, [], bads))

    def test_any_case_is_right_and_no_other_one(self):
        goods, bads = freest_paper(*EARLY)
        rows = Contents(bads[0][1][1][0].schema, {"one": [(1, 0), (7, 0)]})
        answers = {name: Answers(rest=3, step=2) for name in "fghi"}
        assignment = bads[0][0]
        self.assertIs(True, is_freest_paper(*EARLY, goods, [(assignment, ("parted", (rows, answers)))]))
        for thing in [(rows.with_rows("one", [(1, 1)]), answers), (Contents(BARE, {"one": [(1, 0)]}), answers),
                      (rows, {}), (rows,), None]:
            self.assertIs(False, is_freest_paper(*EARLY, goods, [(assignment, ("parted", thing))]))

    def test_stops_that_are_wrong(self):
        goods, bads = freest_paper(*EARLY)
        assignment, (_, case) = bads[0]
        for thing in [None, "parted", ("parted",), ("parted", case, case), ["parted", case], ("differ", case),
                      ("loose", 0, 0), ("hidden", 0, 1, "o"), (case, "parted"), ()]:
            self.assertIs(False, is_freest_paper(*EARLY, goods, [(assignment, thing)]))
        loose = bare(O, ("use",), kept=[("call", "x", "f", (1,))])
        goods, bads = freest_paper(loose, loose)
        assignment = bads[0][0]
        for thing in [("loose", False, 0), ("loose", 0, False), ("loose", 1, 0), ("loose", 0, 1), ("loose", 0),
                      ("hidden", 0, 0, "o"), ("parted", case), ("loose", 0, 0, 0), ["loose", 0, 0], None]:
            self.assertIs(False, is_freest_paper(loose, loose, goods, [(assignment, thing)]))
        self.assertIs(True, is_freest_paper(loose, loose, goods, [(assignment, ("loose", 0, 0))]))

    def test_values_of_other_sorts(self):
        goods, bads = freest_paper(*EARLY)
        for thing in of_all_sorts():
            for paper in [(thing, bads), (goods, thing), ([thing], bads), (goods + [thing], bads), (goods, [thing]),
                          (goods, bads + [thing]), (goods, bads + [(thing, bads[0][1])]),
                          (goods, bads + [(bads[0][0], thing)]), (goods, bads + [(bads[0][0], ("parted", thing))]),
                          (goods, bads + [(bads[0][0], (thing, bads[0][1][1]))]), ([(thing,)], bads),
                          ([(("f", thing),)], bads), ([((thing, "stable"),)], bads)]:
                self.assertIs(False, is_freest_paper(*EARLY, *paper))
        self.assertIs(False, is_freest_paper(*EARLY, tuple(goods), bads))
        self.assertIs(False, is_freest_paper(*EARLY, goods, tuple(bads)))
        self.assertIs(False, is_freest_paper(*EARLY, [list(goods[0])], bads))
        self.assertIs(False, is_freest_paper(*EARLY, [(["f", "stable"],)], bads))
        for other in [(("f", "fixed"),), (("g", "stable"),), (("f", "stable"), ("g", "stable")), ()]:
            self.assertIs(False, is_freest_paper(*EARLY, goods + [other], bads))

    def test_lists_belong_to_the_caller(self):
        goods, bads = freest_paper(*EARLY)
        goods.clear()
        bads.clear()
        freest(*EARLY).clear()
        self.check(*EARLY)

    def test_the_largest_plans(self):
        columns, tables = ["a", "b", "c", "d", "e"], ["ta", "tb", "tc", "td", "te", "tf"]
        functions = {"f": (3, "fixed"), "g": (3, "fixed"), "h": (3, "stable"), "i": (2, "changing"),
                     "j": (1, "effect"), "k": (0, "effect")}
        made = [(table, "d", "f", ("a", "b", "c")) for table in tables]
        made += [(table, "e", "g", ("d", "d", "a")) for table in tables]
        schema = Schema({table: columns for table in tables}, functions, keys={table: "a" for table in tables},
                        references=[(one, column, other) for one in tables for column in "abc" for other in tables],
                        made=made)
        loops = [("each", loop, "ta") for loop in "pqrs"]
        items = [("call", "x", "h", (("p", "b"), ("r", "c"), 0)), ("unlike", ("p", "c"), ("r", "b")),
                 ("call", "y", "i", (("p", "b"), ("r", "c"))), ("call", "z", "j", ("x",)), ("call", "w", "k", ()),
                 ("same", "x", ("s", "b"))]
        one = Plan(schema, loops + items, ["x", ("s", "b")], marks=list("pqrs"))
        other = one.with_items(loops + [items[at] for at in [0, 2, 1, 4, 3, 5]])
        self.assertEqual(81, len(list(assignments(one, other))))
        goods, _ = self.check(one, other)
        self.assertEqual(2, len(goods))


class Errors(unittest.TestCase):
    def test_unlike_plans(self):
        other = Schema({"one": ["a"], "two": ["a"]}, {})
        for one, second in [(bare(O), bare(O, schema=BARE.with_kinds({"f": "stable"}))),
                            (bare(O, marks=[]), bare(O, schema=BARE.with_kinds({"f": "stable"}), marks=[])),
                            (Plan(other, [("each", "o", "one")]), Plan(other, [("each", "o", "two")]))]:
            for call in [lambda: list(assignments(one, second)), lambda: works(one, second, ()),
                         lambda: freest(one, second), lambda: stop(one, second, ()), lambda: freest_paper(one, second),
                         lambda: is_freest_paper(one, second, [], []), lambda: is_freest_paper(one, second, None, 1)]:
                self.assertEqual(("Unlike",), error_of(call))

    def test_plans_over_lands(self):
        one = planned(("each", "w", "ware"), ("call", "x", "now", (("w", "cost"),)), ("call", "y", "log", ("x",)),
                      marks=["w"])
        self.assertEqual([(("log", "effect"), ("now", "effect"))], freest(one, one))


if __name__ == "__main__":
    unittest.main()
