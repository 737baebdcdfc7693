"""Where records differ, what a case is, cases that part plans, and rows left out of them [70]."""

import random
import unittest

from lands import CHAIN, planned
from pairings import changed_plan, plain_plan
from plainly import PlainRun
from plainties import PlainClasses, PlainTies
from plancalls.alike import compare
from plancalls.answers import Answers, keeps
from plancalls.contents import Contents
from plancalls.errors import Hidden
from plancalls.parting import differences, is_case, parting_case, thinned_case
from plancalls.plans import Plan
from plancalls.records import record
from plancalls.schemas import Schema
from things import error_of, of_all_sorts

BARE = Schema({"one": ["a", "b"], "two": ["a"]}, {"log": (1, "effect"), "ping": (0, "effect"), "cha": (1, "changing"),
                                              "chb": (0, "changing"), "fix": (1, "fixed")})
O, P = ("each", "o", "one"), ("each", "p", "two")
LOG = ("call", "x", "log", (("o", "a"),))
ROWS = Contents(BARE, {"one": [(1, 2), (3, 3)], "two": [(5,), (6,)]})
ANSWERS = {name: Answers(rest=4) for name in BARE.functions()}


def bare(*items, shown=(), marks=("o",), kept=()):
    return Plan(BARE, list(items), shown, marks=marks, kept=kept)


class Differences(unittest.TestCase):
    def test_equal_records(self):
        self.assertEqual([], differences(bare(O, LOG), bare(O, LOG), ROWS, ANSWERS))

    def test_rows(self):
        one, other = bare(O, shown=[("o", "a")]), bare(O, shown=[("o", "b")])
        expected = [(".", 0, ((("o", 0),), (1,)), ((("o", 0),), (2,)))]
        self.assertEqual(expected, differences(one, other, ROWS, ANSWERS))
        expected = [(".", 1, ((("o", 1),), ()), None)]
        other = bare(O, ("unlike", ("o", "a"), ("o", "b")))
        self.assertEqual(expected, differences(bare(O), other, ROWS, ANSWERS))
        self.assertEqual([(".", 1, None, expected[0][2])], differences(other, bare(O), ROWS, ANSWERS))

    def test_calls_of_effect_and_changing_functions(self):
        one = bare(O, ("call", "x", "cha", (1,)), ("call", "y", "log", (2,)), ("call", "z", "chb", ()))
        other = bare(O, ("call", "x", "cha", (("o", "a"),)), ("call", "y", "ping", ()), ("call", "z", "chb", ()))
        numbers = [(("o", 0),), (("o", 1),)]
        expected = [("", 0, ("log", (2,), numbers[0]), ("ping", (), numbers[0])),
                    ("cha", 1, ("cha", (1,), numbers[1]), ("cha", (3,), numbers[1]))]
        self.assertEqual(expected, differences(one, other, ROWS, ANSWERS))

    def test_one_without_rows_and_calls(self):
        expected = [("", 0, None, ("log", (1,), (("o", 0),))), (".", 0, None, ((("o", 0),), ()))]
        self.assertEqual(expected, differences(bare(O, ("same", 1, 2)), bare(O, LOG), ROWS, ANSWERS))

    def test_any_functions_and_contents_that_do_not_keep_the_schema(self):
        functions = {"inc": lambda arguments, many: arguments[0] + 1}
        one = Plan(CHAIN, [("each", "g", "goods"), ("call", "x", "inc", (("g", "low"),))], ["x"], marks=["g"])
        goods = Contents(CHAIN, {"goods": [(1, 2, 9, 9, 9), (1, 2, 3, 3, 3)]})
        expected = [(".", 0, ((("g", 0),), (3,)), ((("g", 0),), (9,)))]
        self.assertEqual(expected, differences(one, one.with_shown([("g", "mid")]), goods, functions))

    def test_loose_and_hidden_plans_too(self):
        one = bare(("use",), kept=[("call", "x", "ping", ()), O, P], marks=[])
        self.assertEqual([("", 0, ("ping", (), ()), None), (".", 0, ((), ()), None)],
                         differences(one, bare(marks=[], *[("same", 1, 2)]), ROWS, ANSWERS))

    def test_each_list_is_new(self):
        one, other = bare(O), bare(O, shown=[1])
        differences(one, other, ROWS, ANSWERS).clear()
        self.assertEqual(1, len(differences(one, other, ROWS, ANSWERS)))


class IsCase(unittest.TestCase):
    ONE, OTHER = bare(O, LOG), bare(O, ("unlike", ("o", "a"), 1), LOG)

    def check(self, expected, thing, one=ONE, other=OTHER):
        self.assertIs(expected, is_case(one, other, thing))

    def test_cases(self):
        self.check(True, (ROWS, ANSWERS))
        self.check(True, (ROWS.with_rows("one", [(1, 1)]), {name: Answers() for name in ANSWERS}))

    def test_cases_that_do_not_part(self):
        self.check(False, (ROWS, ANSWERS), other=self.ONE)
        self.check(False, (ROWS.with_rows("one", [(2, 1)]), ANSWERS))
        self.check(False, (Contents(BARE, {}), ANSWERS))

    def test_functions_missing_too_many_or_no_answers(self):
        for name in ANSWERS:
            self.check(False, (ROWS, {key: ANSWERS[key] for key in ANSWERS if key != name}))
            for other in [None, len, lambda arguments, many: 4, 4, Answers]:
                self.check(False, (ROWS, {**ANSWERS, name: other}))
        self.check(False, (ROWS, {**ANSWERS, "more": Answers()}))
        without = {key: ANSWERS[key] for key in ANSWERS if key != "fix"}
        for key in ["more", None, 3, ("fix",)]:
            self.check(False, (ROWS, {**without, key: Answers()}))

    def test_values_of_other_sorts(self):
        for thing in of_all_sorts():
            self.check(False, thing)
            self.check(False, (thing, ANSWERS))
            self.check(False, (ROWS, thing))
            self.check(False, (ROWS, ANSWERS, thing))
        self.check(False, [ROWS, ANSWERS])
        self.check(False, (ANSWERS, ROWS))
        self.check(False, (ROWS,))
        self.check(False, ROWS)

    def test_contents_of_another_schema(self):
        schema = BARE.with_kinds({"cha": "effect"})
        self.check(False, (Contents(schema, {"one": [(1, 2)]}), ANSWERS))
        equal = Schema({"two": ("a",), "one": ("a", "b")}, {name: (BARE.arguments(name), BARE.kind(name))
                                                         for name in BARE.functions()})
        self.check(True, (Contents(equal, {"one": [(1, 2)]}), ANSWERS))

    def test_contents_that_do_not_keep_the_schema(self):
        one = Plan(CHAIN, [("each", "g", "goods")], [("g", "low")], marks=["g"])
        other = one.with_shown([("g", "mid")])
        functions = {name: Answers(rest=5) for name in CHAIN.functions()}
        self.check(True, (Contents(CHAIN, {"goods": [(1, 2, 5, 5, 5)]}), functions), one, other)
        for goods, sale in [([(1, 2, 6, 5, 5)], []), ([(1, 2, 5, 5, 5)] * 2, []), ([(1, 2, 5, 5, 5)], [(2, 2)])]:
            self.check(False, (Contents(CHAIN, {"goods": goods, "sale": sale}), functions), one, other)


class PartingCase(unittest.TestCase):
    PAIRS = [
        (bare(O), bare(O, shown=[1])),
        (bare(O, P, marks=["o", "p"]), bare(P, O, marks=["o", "p"])),
        (bare(O, ("each", "q", "one"), marks=["o", "q"]), bare(("each", "q", "one"), O, marks=["o", "q"])),
        (bare(O, LOG), bare(LOG[:3] + ((3,),), O)),
        (bare(O, LOG), bare(O, ("call", "x", "ping", ()))),
        (bare(O, LOG, ("same", "x", 3)), bare(O, LOG, ("same", "x", ("o", "a")))),
        (bare(O, ("call", "x", "cha", (1,)), ("same", "x", 7), ("call", "y", "ping", ())),
         bare(O, ("call", "y", "ping", ()), ("call", "x", "cha", (1,)), ("same", "x", 7))),
        (bare(("call", "x", "cha", (5,)), ("call", "y", "log", ("x",)), marks=[]),
         bare(("call", "y", "log", (5,)), ("call", "x", "cha", ("y",)), marks=[])),
        (bare(O, ("call", "x", "chb", ()), ("call", "y", "chb", ()), shown=["x"]),
         bare(O, ("call", "x", "chb", ()), ("call", "y", "chb", ()), shown=["y"])),
        (bare(O, ("use",), kept=[P], marks=["o", "p"]), bare(O, P, ("same", ("o", "a"), ("p", "a")), marks=["o", "p"])),
        (bare(marks=[]), bare(("same", 1, 2), marks=[])),
    ]
    KEYED = [("each", "w", "ware"), ("each", "t", "town"), ("same", ("w", "town"), ("t", "id"))]

    def check(self, one, other):
        """Check the case that parts two plans, and return it."""
        for first, second in [(one, other), (other, one)]:
            case = parting_case(first, second)
            self.assertIs(True, is_case(first, second, case))
            contents, functions = case
            self.assertIsNone(keeps(one.schema, contents, functions))
            self.assertEqual(one.schema.functions(), sorted(functions))
            self.assertTrue(differences(first, second, contents, functions))
            runs = [PlainRun(plan, contents, functions) for plan in (first, second)]
            self.assertFalse(self.told(runs[0], one.schema) == self.told(runs[1], one.schema))
        return case

    def told(self, run, schema):
        """Return the rows and the calls of each stream of a run."""
        calls = [(function, arguments, numbers) for _, function, arguments, _, _, numbers in run.calls]
        found = {name: [call for call in calls if call[0] == name] for name in schema.functions()
                 if schema.kind(name) == "changing"}
        return run.rows, found, [call for call in calls if schema.kind(call[0]) == "effect"]

    def test_plans_without_keys(self):
        for one, other in self.PAIRS:
            self.check(one, other)

    def test_two_rows_for_each_loop(self):
        for one, other in self.PAIRS:
            contents, _ = self.check(one, other)
            loops = max(len(one.loops()), len(other.loops()))
            self.assertLessEqual(max(contents.size(table) for table in ["one", "two"]), 2 * loops)

    def test_plans_over_tables_with_keys_and_references(self):
        one = planned(*self.KEYED, shown=[("t", "near")], marks=["w"])
        for other in [planned(self.KEYED[1], self.KEYED[0], self.KEYED[2], shown=[("t", "near")], marks=["w"]),
                      one.with_shown([("t", "land")]), one.with_shown([("t", "id")]),
                      planned(*self.KEYED, ("unlike", ("t", "near"), ("w", "cost")), shown=[("t", "near")],
                              marks=["w"]),
                      planned(*self.KEYED, ("each", "m", "mayor"), ("same", ("m", "id"), ("t", "near")),
                              shown=[("t", "near")], marks=["w"]),
                      planned(self.KEYED[0], ("each", "m", "mayor"), ("same", ("m", "id"), ("w", "town")),
                              shown=[("m", "town")], marks=["w"])]:
            self.check(one, other)

    def test_orders_that_differ_behind_rows_that_are_shared(self):
        loops = [("each", "w", "ware"), ("each", "t", "town"), ("each", "u", "town"), ("each", "v", "ware")]
        for first, second in [(1, 2), (2, 3), (1, 3)]:
            others = list(loops)
            others[first], others[second] = others[second], others[first]
            marks = ["t", "u", "v", "w"]
            self.check(planned(*loops, marks=marks), planned(*others, marks=marks))
            behind = [("same", ("w", "cost"), ("t", "near")), ("unlike", ("u", "id"), ("t", "id"))]
            self.check(planned(*loops, *behind, marks=marks), planned(*others, *behind, marks=marks))

    def test_orders_of_rows_that_hang_on_those_that_are_shared(self):
        # The two rows that come in another order have to belong to one row of the loop ahead of them.
        q = ("each", "q", "one")
        tests = [("same", ("o", "a"), ("p", "a")), ("same", ("o", "a"), ("q", "a"))]
        marks = ["o", "p", "q"]
        self.check(bare(O, P, q, *tests, marks=marks), bare(O, q, P, *tests, marks=marks))
        for name in ["w", "town"]:
            loops = [("each", "t", "town"), ("each", name, "ware"), ("each", "n", "note")]
            tests = [("same", ("t", "id"), (name, "cost")), ("same", ("t", "id"), ("n", "text"))]
            marks = ["n", "t", name]
            self.check(planned(*loops, *tests, marks=marks), planned(loops[0], *loops[:0:-1], *tests, marks=marks))
        loops = [("each", "t", "town"), ("each", "l", "land"), ("each", "m", "mayor")]
        tests = [("same", ("t", "id"), ("l", "head")), ("same", ("t", "id"), ("m", "town"))]
        marks = ["l", "m", "t"]
        self.check(planned(*loops, *tests, marks=marks), planned(loops[0], *loops[:0:-1], *tests, marks=marks))

    def test_an_order_by_rows_to_which_references_lead(self):
        one = planned(("each", "w", "ware"), marks=["w"])
        self.check(one, planned(self.KEYED[1], self.KEYED[0], self.KEYED[2], marks=["w"]))
        one = planned(("each", "m", "mayor"), marks=["m"])
        other = planned(("each", "l", "land"), ("each", "t", "town"), ("each", "m", "mayor"),
                        ("same", ("m", "town"), ("t", "id")), ("same", ("l", "id"), ("t", "land")), marks=["m"])
        self.check(one, other)

    def test_orders_that_hang_on_answers(self):
        call = ("call", "x", "draw", (1,))
        one = planned(("each", "w", "ware"), call, ("each", "t", "town"), ("same", ("t", "id"), "x"),
                      ("each", "v", "ware"), marks=["t", "v", "w"])
        other = planned(("each", "w", "ware"), call, ("each", "v", "ware"), ("each", "t", "town"),
                        ("same", ("t", "id"), "x"), marks=["t", "v", "w"])
        self.assertIsNone(parting_case(one, other))
        other = planned(("each", "v", "ware"), ("each", "t", "town"), ("each", "w", "ware"), marks=["t", "v", "w"])
        self.check(one, other)

    def test_plans_that_are_alike(self):
        one = planned(*self.KEYED, shown=[("t", "id")], marks=["w"])
        self.assertIsNone(parting_case(one, one))
        self.assertIsNone(parting_case(one, planned(self.KEYED[0], shown=[("w", "town")], marks=["w"])))

    def test_each_case_is_new(self):
        one, other = self.PAIRS[0]
        parting_case(one, other)[1].clear()
        self.check(one, other)

    def test_large_plans_over_the_largest_schema(self):
        columns, tables = ["a", "b", "c", "d", "e"], ["ta", "tb", "tc", "td", "te", "tf"]
        functions = {"f": (3, "fixed"), "g": (3, "fixed"), "h": (3, "stable"), "i": (2, "changing"),
                     "j": (1, "effect"), "k": (0, "effect")}
        made = [(table, "d", "f", ("a", "b", "c")) for table in tables]
        made += [(table, "e", "g", ("d", "d", "a")) for table in tables]
        schema = Schema({table: columns for table in tables}, functions, keys={table: "a" for table in tables},
                        references=[(one, column, other) for one in tables for column in "abc" for other in tables],
                        made=made)
        loops = [("each", loop, "ta") for loop in "pqrs"]
        behind = [("unlike", ("p", "b"), ("q", "c")), ("call", "x", "i", (("p", "d"), ("r", "c"))),
                  ("unlike", "x", ("s", "e")), ("call", "y", "j", ("x",)), ("call", "z", "h", ("x", "y", 1)),
                  ("unlike", ("r", "b"), "z")]
        one = Plan(schema, loops + behind, ["z", ("q", "e")], marks=list("pqrs"))
        self.check(one, Plan(schema, loops[:2] + loops[:1:-1] + behind, ["z", ("q", "e")], marks=list("pqrs")))
        self.check(one, one.with_shown(["z", ("q", "d")]))
        self.check(one, one.with_items(loops + [behind[1], behind[0], *behind[2:]]))

    def test_many_plans(self):
        chance = random.Random(70)
        words = []
        for _ in range(200):
            one = plain_plan(chance)
            for other in [changed_plan(chance, one) for _ in range(3)]:
                if other is None:
                    continue
                try:
                    found = compare(one, other)
                except Hidden:
                    continue
                if found is None:
                    self.assertIsNone(parting_case(one, other))
                else:
                    words.append(found[2])
                    self.check_rows(one, other, self.check(one, other)[0])
        self.assertEqual(6, len(set(words)))
        self.assertGreater(len(words), 120)

    def check_rows(self, one, other, contents):
        """Check that no table has more than twice as many rows as a case at one of the sites may have."""
        ties = [PlainTies(plan) for plan in (one, other)]
        shown = [told.tie(term) for told in ties for term in told.plan.shown()]
        most = {table: 0 for table in contents.schema.tables()}
        for told in ties:
            for _, _, place in told.sites:
                loops = told.plan.open_at(place)
                added = [tie for tie in shown if self.fits(tie, loops)]
                classes = PlainClasses(told, place, [], added)
                for table in most:
                    many = 1 + [told.plan.table_of(loop) for loop in loops].count(table)
                    if contents.schema.key(table) is not None:
                        many += len({classes.classes[tie] for tie in classes.classes if classes.has(table, tie)})
                    most[table] = max(most[table], many)
        for table in most:
            self.assertLessEqual(contents.size(table), 2 * most[table])

    def fits(self, tie, loops):
        if tie[0] == "cell":
            return tie[1] in loops
        parts = tie[3:] if tie[0] == "look" else tie[2] if tie[0] == "ask" else ()
        return all(self.fits(part, loops) for part in parts)


class ThinnedCase(unittest.TestCase):
    def test_rows_are_left_out_one_after_another(self):
        one, other = bare(O, LOG), bare(O, ("unlike", ("o", "a"), 1), LOG)
        rows = ROWS.with_rows("one", [(2, 2), (1, 1), (3, 3), (1, 7)])
        contents, functions = thinned_case(one, other, (rows, ANSWERS))
        self.assertEqual([(1, 7)], contents.rows("one"))
        self.assertEqual([], contents.rows("two"))
        self.assertEqual(ANSWERS.keys(), functions.keys())
        self.assertTrue(all(functions[name] == ANSWERS[name] for name in ANSWERS))

    def test_the_first_row_is_tried_again(self):
        # The first row of goods can go only when the sale that leads to it has gone.
        one, other = [Plan(CHAIN, [("each", "s", "sale")], [term], marks=["s"]) for term in [("s", "sum"), 0]]
        goods = [(1, 5, 5, 5, 5), (2, 5, 5, 5, 5)]
        contents = Contents(CHAIN, {"goods": goods, "sale": [(1, 0), (2, 4)]})
        functions = {name: Answers(rest=5) for name in CHAIN.functions()}
        left, _ = thinned_case(one, other, (contents, functions))
        self.assertEqual([[goods[1]], [(2, 4)]], [left.rows("goods"), left.rows("sale")])

    def test_a_case_in_which_no_row_can_go(self):
        one, other = bare(O, LOG), bare(O, ("unlike", ("o", "a"), 1), LOG)
        case = (ROWS.with_rows("one", [(1, 1)]).with_rows("two", []), ANSWERS)
        left = thinned_case(one, other, case)
        self.assertTrue(left[0] == case[0])
        left[1].clear()
        self.assertEqual(5, len(ANSWERS))

    def test_no_rows_at_all(self):
        one, other = bare(marks=[]), bare(marks=[], shown=[1])
        contents, _ = thinned_case(one, other, (ROWS, ANSWERS))
        self.assertTrue(contents == Contents(BARE, {}))

    def test_by_the_words(self):
        chance = random.Random(7)
        many = 0
        for _ in range(60):
            one = plain_plan(chance)
            other = changed_plan(chance, one)
            try:
                case = None if other is None else parting_case(one, other)
            except Hidden:
                continue
            if case is not None:
                many += 1
                found = thinned_case(one, other, case)
                expected = self.plainly_thinned(one, other, case)
                self.assertTrue(found[0] == expected)
                self.assertTrue(is_case(one, other, found))
        self.assertGreater(many, 10)

    def plainly_thinned(self, one, other, case):
        contents, functions = case
        while True:
            for less in self.all_less(contents):
                if keeps(one.schema, less, functions) is None:
                    if record(one, less, functions) != record(other, less, functions):
                        contents = less
                        break
            else:
                return contents

    def all_less(self, contents):
        found = []
        for table in contents.schema.tables():
            rows = contents.rows(table)
            found += [contents.with_rows(table, rows[:at] + rows[at + 1:]) for at in range(len(rows))]
        return found


class Errors(unittest.TestCase):
    def test_unlike_plans(self):
        one, other = bare(O), Plan(BARE, [("each", "o", "two")], marks=["o"])
        third = Plan(BARE.with_kinds({"cha": "effect"}), [O], marks=["o"])
        for second in [other, third]:
            for call in [lambda: differences(one, second, ROWS, ANSWERS), lambda: is_case(one, second, (ROWS, ANSWERS)),
                         lambda: is_case(one, second, None), lambda: parting_case(one, second),
                         lambda: thinned_case(one, second, (ROWS, ANSWERS))]:
                self.assertEqual(("Unlike",), error_of(call))

    def test_loose_and_hidden_plans(self):
        loose = bare(("use",), kept=[("call", "x", "ping", ())], marks=[])
        hidden, plain = bare(O, marks=[]), bare(O)
        self.assertEqual(("Loose", 0), error_of(lambda: parting_case(plain, loose)))
        self.assertEqual(("Loose", 0), error_of(lambda: parting_case(loose, hidden)))
        self.assertEqual(("Hidden", 1, "o"), error_of(lambda: parting_case(hidden, loose)))
        self.assertIs(True, is_case(loose, hidden, (ROWS, ANSWERS)))
        self.assertIs(False, is_case(hidden, hidden, (ROWS, ANSWERS)))
        self.assertTrue(is_case(loose, hidden, thinned_case(loose, hidden, (ROWS, ANSWERS))))


if __name__ == "__main__":
    unittest.main()
