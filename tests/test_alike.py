"""When plans are alike, and how they differ first [6] [61]."""

import random
import unittest

from lands import CHAIN, LANDS, cell, look, number, planned, told
from pairings import changed_plan, plain_plan
from plainties import PlainTies, entailed
from plancalls.alike import are_alike, claims, compare, pairs
from plancalls.closures import Closure
from plancalls.errors import Hidden
from plancalls.ground import written
from plancalls.parting import parting_case
from plancalls.plans import Plan
from plancalls.records import record
from plancalls.sites import sites
from richly import rich_contents, rich_functions
from things import error_of

W, V, T, U = ("each", "w", "ware"), ("each", "v", "ware"), ("each", "t", "town"), ("each", "u", "town")
SETTLED = ("same", ("w", "town"), ("t", "id"))
PING, LOG, DRAW = ("call", "x", "ping", ()), ("call", "y", "log", (1,)), ("call", "z", "draw", (1,))
DEAD = ("same", 1, 2)


def marked(*items, **rest):
    """Return the Plan of these items in which all loops are marked."""
    plan = planned(*items, **rest)
    return plan.with_marks(plan.loops())


class AlikeCase(unittest.TestCase):
    def assert_alike(self, one, other):
        for first, second in [(one, other), (other, one)]:
            self.assertIsNone(compare(first, second))
            self.assertIs(True, are_alike(first, second))
            places = {site[:2]: site[2] for site in sites(second)}
            expected = sorted((stream, index, place, places[(stream, index)]) for stream, index, place in sites(first))
            self.assertEqual(expected, pairs(first, second))

    def assert_differ(self, difference, one, other):
        for first, second in [(one, other), (other, one)]:
            self.assertEqual(difference, compare(first, second))
            self.assertIs(False, are_alike(first, second))
            self.assertIsNone(pairs(first, second))


class Alike(AlikeCase):
    def test_plans_that_are_equal(self):
        for plan in [planned(), planned(PING, LOG, DRAW), marked(W, V, T, PING, SETTLED, shown=["x", ("w", "net")])]:
            self.assert_alike(plan, plan)

    def test_the_end_is_the_only_site(self):
        self.assert_alike(planned(), planned(("call", "x", "fix", (1,)), ("call", "y", "now", ("x",))))
        self.assertEqual([(".", 0, 0, 1)], pairs(planned(), planned(("call", "x", "fix", (1,)))))

    def test_no_live_site(self):
        self.assert_alike(planned(DEAD), planned(("unlike", 3, 3), W, LOG))
        self.assertEqual([], pairs(planned(DEAD), planned(DEAD, W, PING)))

    def test_conditions_in_another_order_and_by_other_equal_terms(self):
        one = marked(W, V, ("same", ("w", "cost"), ("v", "cost")), ("unlike", ("w", "net"), 3), LOG)
        other = marked(W, V, ("unlike", 3, ("w", "net")), ("same", ("v", "cost"), ("w", "cost")), LOG)
        third = marked(W, V, ("same", ("v", "cost"), ("w", "cost")), ("unlike", 3, ("v", "net")), LOG)
        self.assert_alike(one, other)
        self.assert_alike(one, third)

    def test_conditions_that_say_nothing_new(self):
        one = marked(W, ("same", ("w", "cost"), 4))
        other = marked(W, ("same", ("w", "cost"), 4), ("unlike", ("w", "cost"), 5), ("same", 1, 1),
                       ("call", "x", "fix", (4,)), ("same", "x", ("w", "net")))
        self.assert_alike(one, other)

    def test_arguments_that_are_equal_by_the_conditions(self):
        one = marked(W, ("same", ("w", "cost"), 4), ("call", "x", "log", (4,)), shown=[("w", "net"), "x"])
        other = marked(W, ("same", ("w", "cost"), 4), ("call", "y", "log", (("w", "cost"),)),
                       ("call", "f", "fix", (4,)), shown=["f", "y"])
        self.assert_alike(one, other)

    def test_further_loops_over_tables_to_which_references_lead(self):
        one = planned(W, PING, marks=["w"], shown=[("w", "town")])
        other = planned(W, T, SETTLED, U, ("same", ("u", "id"), ("t", "near")), PING, marks=["w"], shown=[("t", "id")])
        self.assert_alike(one, other)
        self.assert_alike(other, one.with_shown([("w", "town")]))

    def test_loops_that_are_not_marked_called_otherwise(self):
        one = planned(W, T, SETTLED, PING, marks=["w"], shown=[("t", "near")])
        other = planned(W, U, ("same", ("u", "id"), ("w", "town")), PING, marks=["w"], shown=[("u", "near")])
        self.assert_alike(one, other)
        # The same names for one another's loops.
        first = planned(W, T, U, SETTLED, ("same", ("u", "id"), ("t", "near")), marks=["w"], shown=[("t", "land")])
        second = planned(W, U, T, ("same", ("u", "id"), ("w", "town")), ("same", ("t", "id"), ("u", "near")),
                         marks=["w"], shown=[("u", "land")])
        self.assert_alike(first, second)
        self.assert_differ((".", 0, "arguments"), first, second.with_shown([("t", "land")]))

    def test_comparisons_ahead_of_calls_that_are_not_counted(self):
        one = marked(W, ("call", "f", "fix", (("w", "cost"),)), ("unlike", "f", 1))
        other = marked(W, ("unlike", ("w", "net"), 1), ("call", "f", "fix", (("w", "cost"),)))
        self.assert_alike(one, other)

    def test_kept_items(self):
        kept = planned(W, ("use",), PING, kept=[T, ("same", ("t", "near"), 3)], marks=["w", "t"])
        self.assert_alike(kept, planned(W, T, ("same", ("t", "near"), 3), PING, marks=["w", "t"]))
        self.assert_differ(("", 0, "order"), kept, planned(T, ("same", ("t", "near"), 3), W, PING, marks=["w", "t"]))

    def test_calls_of_several_streams_in_another_order(self):
        self.assert_alike(planned(PING, DRAW, LOG), planned(PING, LOG, DRAW))
        self.assert_alike(planned(PING, DRAW), planned(DRAW, PING))

    def test_order_keys_of_equal_classes(self):
        one = planned(T, U, ("same", ("t", "id"), ("u", "id")), PING, marks=["t", "u"])
        other = planned(U, T, ("same", ("t", "id"), ("u", "id")), PING, marks=["t", "u"])
        self.assert_alike(one, other)

    def test_order_keys_of_loops_that_are_not_marked(self):
        one = planned(T, W, SETTLED, PING, marks=["w"])
        other = planned(U, W, ("same", ("u", "id"), ("w", "town")), PING, marks=["w"])
        self.assert_alike(one, other)
        self.assert_differ(("", 0, "order"), one, planned(W, PING, marks=["w"]))

    def test_a_loop_with_the_name_of_a_function(self):
        one = planned(("call", "x", "draw", (1,)), W, ("each", "draw", "town"), ("same", ("draw", "id"), ("w", "town")),
                      ("unlike", "x", ("draw", "near")), marks=["w"], shown=["x"])
        other = planned(("call", "x", "draw", (1,)), W, T, SETTLED, ("unlike", ("t", "near"), "x"), marks=["w"],
                        shown=["x"])
        self.assert_alike(one, other)

    def test_made_columns_and_functions_of_made_columns(self):
        one = marked(("each", "g", "goods"), ("call", "x", "inc", (("g", "low"),)), ("unlike", "x", 0), shown=["x"],
                     schema=CHAIN)
        other = marked(("each", "g", "goods"), ("unlike", 0, ("g", "mid")), shown=[("g", "mid")], schema=CHAIN)
        self.assert_alike(one, other)


class Words(AlikeCase):
    def test_lacking(self):
        self.assert_differ(("", 0, "lacking"), planned(), planned(PING))
        self.assert_differ(("", 1, "lacking"), planned(PING), planned(PING, LOG))
        self.assert_differ(("draw", 0, "lacking"), planned(), planned(DRAW))
        self.assert_differ((".", 0, "lacking"), planned(), planned(DEAD))
        self.assert_differ(("", 0, "lacking"), planned(PING), planned(DEAD, PING))

    def test_function(self):
        self.assert_differ(("", 0, "function"), planned(PING), planned(LOG))
        self.assert_differ(("", 1, "function"), planned(PING, LOG, DRAW), planned(PING, ("call", "y", "ping", ())))
        one, other = planned(W, LOG, marks=["w"]), planned(V, ("same", ("v", "cost"), 1), PING, marks=["v"])
        self.assert_differ(("", 0, "function"), one, other)

    def test_marks(self):
        one, other = planned(W, PING, marks=["w"]), planned(PING, W, marks=["w"])
        self.assert_differ(("", 0, "marks"), one, other)
        self.assert_differ((".", 0, "marks"), planned(W, marks=["w"]), planned(V, marks=["v"]))
        one = planned(T, U, ("same", ("t", "id"), ("u", "id")), marks=["t"])
        self.assert_differ((".", 0, "marks"), one, one.with_marks(["u"]))
        self.assert_differ((".", 0, "marks"), one, one.with_marks(["t", "u"]))
        self.assert_differ((".", 0, "marks"), one, planned(U, ("same", 1, ("u", "near")), marks=["u"]))

    def test_conditions(self):
        base = marked(W, PING)
        self.assert_differ(("", 0, "conditions"), base, marked(W, ("same", ("w", "cost"), 1), PING))
        self.assert_differ((".", 0, "conditions"), base, marked(W, PING, ("same", ("w", "cost"), 1)))
        self.assert_differ(("", 0, "conditions"), marked(W, ("unlike", ("w", "cost"), 1), PING),
                           marked(W, ("unlike", ("w", "cost"), 2), PING))
        self.assert_differ(("", 0, "conditions"), marked(W, ("same", ("w", "cost"), 1), PING, shown=[1]),
                           marked(W, ("unlike", ("w", "cost"), 1), PING))

    def test_rows_that_have_to_be_there_are_conditions(self):
        one = planned(T, marks=["t"], shown=[1])
        other = planned(T, ("each", "l", "land"), ("same", ("l", "id"), ("t", "near")), marks=["t"], shown=[1])
        self.assert_differ((".", 0, "conditions"), one, other)
        self.assert_alike(one, other.with_items([T, ("each", "l", "land"), ("same", ("l", "id"), ("t", "land"))]))

    def test_arguments(self):
        self.assert_differ(("", 0, "arguments"), planned(LOG), planned(("call", "y", "log", (2,))))
        self.assert_differ(("draw", 0, "arguments"), planned(DRAW, PING), planned(("call", "z", "draw", (0,)), PING))
        self.assert_differ((".", 0, "arguments"), planned(shown=[1, 2]), planned(shown=[2, 1]))
        self.assert_differ((".", 0, "arguments"), marked(W, shown=[("w", "cost")]), marked(W, shown=[("w", "net")]))

    def test_fewer_and_more_shown_terms(self):
        for one, other in [([], [1]), ([1], [1, 1]), ([1, 2], [1])]:
            self.assert_differ((".", 0, "arguments"), planned(shown=one), planned(shown=other))

    def test_answers_of_sites_as_arguments(self):
        one = planned(("call", "a", "draw", (1,)), ("call", "b", "draw", (1,)), shown=["a"])
        self.assert_differ((".", 0, "arguments"), one, one.with_shown(["b"]))
        other = planned(("call", "b", "draw", (1,)), ("call", "a", "draw", (1,)), shown=["b"])
        self.assert_alike(one, other)

    def test_order(self):
        self.assert_differ((".", 0, "order"), marked(W, V), marked(V, W))
        self.assert_differ(("", 0, "order"), marked(W, V, PING), marked(V, W, PING))
        self.assert_differ((".", 0, "order"), marked(W, T), marked(T, W))
        one, other = planned(W, T, SETTLED, marks=["w"]), planned(T, W, SETTLED, marks=["w"])
        self.assert_differ((".", 0, "order"), one, other)

    def test_order_by_rows_of_one_key_in_two_tables(self):
        loops, same = [("each", "l", "land"), ("each", "m", "mayor")], ("same", ("l", "id"), ("m", "id"))
        self.assert_differ((".", 0, "order"), marked(*loops, same), marked(*loops[::-1], same))

    def test_order_of_a_loop_with_the_name_of_a_table(self):
        loops = [("each", "town", "ware"), T, V]
        for first, second in [(0, 1), (1, 2), (0, 2)]:
            others = list(loops)
            others[first], others[second] = others[second], others[first]
            self.assert_differ((".", 0, "order"), marked(*loops), marked(*others))

    def test_the_same_order_at_one_site_and_not_at_another_one(self):
        one = marked(W, PING, V, T)
        self.assert_differ((".", 0, "order"), one, marked(W, PING, T, V))

    def test_the_first_word_of_several(self):
        words = {"marks": [planned(W, ("same", ("w", "cost"), 1), LOG, marks=["w"]), planned(LOG)],
                 "conditions": [marked(W, V, ("same", ("w", "cost"), 1), LOG),
                                marked(V, W, ("call", "y", "log", (2,)))],
                 "arguments": [marked(W, V, LOG), marked(V, W, ("call", "y", "log", (2,)))]}
        for word, (one, other) in words.items():
            self.assert_differ(("", 0, word), one, other)

    def test_the_least_index_of_the_first_stream(self):
        one = planned(DRAW, PING, LOG, shown=[1])
        self.assert_differ(("", 1, "arguments"), one, planned(PING, ("call", "y", "log", (2,)), shown=[2]))
        self.assert_differ((".", 0, "arguments"), one, planned(PING, LOG, shown=[2]))
        self.assert_differ(("draw", 0, "lacking"), one, planned(PING, LOG, shown=[1]))


class Errors(unittest.TestCase):
    def check(self, error, one, other):
        for call in [compare, are_alike, pairs]:
            self.assertEqual(error, error_of(lambda: call(one, other)))
        self.assertEqual(error, error_of(lambda: claims(one, other, ".", 0)))

    def test_schemas_that_are_not_equal(self):
        self.check(("Unlike",), planned(), Plan(LANDS.with_kinds({"now": "changing"}), []))
        self.check(("Unlike",), planned(), planned(schema=CHAIN))

    def test_loops_of_one_name_over_different_tables(self):
        self.check(("Unlike",), marked(W), marked(T, ("each", "w", "town")))
        self.check(("Unlike",), marked(W), marked(("use",), T, kept=[("each", "w", "town")]))
        self.assertIsNotNone(compare(marked(W), marked(T)))

    def test_loose_and_hidden_plans(self):
        plain, loose = planned(), planned(("use",), kept=[("same", 1, 1), PING])
        hidden = planned(W, T, marks=["w"])
        both = planned(W, ("use",), kept=[PING, T])
        self.check(("Loose", 1), loose, plain)
        self.check(("Loose", 1), plain, loose)
        self.check(("Hidden", 2, "t"), hidden, plain)
        self.check(("Hidden", 2, "t"), plain, hidden)
        self.check(("Loose", 0), both, hidden)
        self.check(("Hidden", 2, "t"), hidden, both)
        self.check(("Loose", 0), both, loose)
        self.check(("Loose", 1), loose, both)

    def test_unlike_comes_first(self):
        self.check(("Unlike",), planned(("use",), kept=[PING]), planned(W, schema=LANDS.with_kinds({"now": "effect"})))

    def test_no_such_site(self):
        for stream, index in [("", 0), ("draw", 0), (".", 1), (".", -1), ("none", 0), ("fix", 0)]:
            error = ("NoSite", stream, index)
            self.assertEqual(error, error_of(lambda: claims(planned(), planned(), stream, index)))
        for one, other in [(planned(PING), planned()), (planned(), planned(PING)),
                           (planned(DEAD, PING), planned(PING))]:
            self.assertEqual(("NoSite", "", 0), error_of(lambda: claims(one, other, "", 0)))
        self.assertEqual(("Hidden", 1, "w"), error_of(lambda: claims(planned(), planned(W), "", 0)))


class Claims(unittest.TestCase):
    def test_marked_loops_alone(self):
        one, other = marked(W), marked(W, T, SETTLED, ("unlike", ("t", "near"), 3), ("same", 1, 1))
        expected = [("same", cell("w", "town"), cell("t", "id")),
                    ("unlike", look("town", "near", cell("t", "id")), number(3)), ("same", number(1), number(1))]
        self.assertEqual(expected, claims(one, other, ".", 0))
        self.assertEqual([], claims(other, one, ".", 0))

    def test_a_loop_that_is_not_marked(self):
        one = planned(W, marks=["w"])
        other = planned(W, T, SETTLED, ("unlike", ("t", "near"), ("t", "id")), marks=["w"])
        key = cell("w", "town")
        expected = [("had", "town", key), ("same", key, key), ("unlike", look("town", "near", key), key)]
        self.assertEqual(expected, claims(one, other, ".", 0))

    def test_several_loops_that_are_not_marked(self):
        one = planned(W, marks=["w"])
        other = planned(W, T, ("each", "l", "land"), U, ("same", ("u", "id"), ("t", "near")), SETTLED,
                        ("same", ("l", "id"), ("u", "land")), marks=["w"])
        key = cell("w", "town")
        near = look("town", "near", key)
        land = look("town", "land", near)
        expected = [("had", "town", key), ("had", "land", land), ("had", "town", near), ("same", near, near),
                    ("same", key, key), ("same", land, land)]
        self.assertEqual(expected, claims(one, other, ".", 0))

    def test_a_loop_settled_by_an_answer_and_by_an_integer(self):
        other = planned(("call", "x", "draw", (1,)), T, ("same", ("t", "id"), "x"), U,
                        ("same", ("u", "near"), ("t", "id")), ("same", ("u", "id"), 5))
        one = planned(("call", "x", "draw", (1,)), LOG)
        tie = told("draw", 0)
        found = claims(one, other, ".", 0)
        self.assertEqual([("had", "town", tie), ("had", "town", number(5))], found[:2])
        self.assertEqual(("same", look("town", "near", number(5)), tie), found[3])

    def test_the_site_of_other_decides(self):
        other = planned(PING, W, T, SETTLED, ("call", "y", "ping", ()), marks=["w"])
        self.assertEqual([[], 2], [claims(other, other, "", 0), len(claims(other, other, "", 1))])

    def test_each_list_is_new(self):
        plan = marked(W, ("same", ("w", "cost"), 1))
        claims(plan, plan, ".", 0).clear()
        self.assertEqual(1, len(claims(plan, plan, ".", 0)))


class Compared(unittest.TestCase):
    """Many pairs of plans: by records, and by the words of [6]."""

    def test_plans_that_are_alike_and_plans_that_are_not(self):
        chance = random.Random(61)
        counts = {}
        for _ in range(250):
            one = plain_plan(chance)
            for other in [changed_plan(chance, one) for _ in range(4)]:
                if other is None:
                    continue
                try:
                    found = compare(one, other)
                except Hidden:
                    continue
                self.assertEqual(found, compare(other, one))
                self.assertEqual(self.plain_difference(one, other), found)
                word = None if found is None else found[2]
                counts[word] = counts.get(word, 0) + 1
                if found is None:
                    self.check_records(chance, one, other)
                else:
                    self.assertIsNotNone(parting_case(one, other))
        self.assertEqual(7, len(counts))

    def check_records(self, chance, one, other):
        for _ in range(8):
            functions = rich_functions(chance, one.schema)
            contents = rich_contents(chance, one.schema, functions)
            self.assertTrue(record(one, contents, functions) == record(other, contents, functions))

    def plain_difference(self, one, other):
        """Return the first difference by the words of the document, with classes told plainly."""
        ties = [PlainTies(plan) for plan in (one, other)]
        places = [{site[:2]: site[2] for site in told.sites} for told in ties]
        for site in sorted(set(places[0]) | set(places[1])):
            if site not in places[0] or site not in places[1]:
                return (*site, "lacking")
            word = self.plain_word(ties, [found[site] for found in places])
            if word is not None:
                return (*site, word)
        return None

    def plain_word(self, ties, places):
        ends = [self.at_site(told, place) for told, place in zip(ties, places)]
        if ends[0][0] != ends[1][0]:
            return "function"
        if ends[0][1] != ends[1][1]:
            return "marks"
        for which in (0, 1):
            told = [self.put(tie, ends[1 - which][4]) for tie in ends[1 - which][2]]
            if not all(entailed(ties[which], places[which], [], claim) for claim in told):
                return "conditions"
        if not self.same(ties[0], places[0], ends[0][3], [self.put(tie, ends[1][4]) for tie in ends[1][3]]):
            return "arguments"
        keys = [told.order_keys(place) for told, place in zip(ties, places)]
        if [row[:2] if row[0] == "row" else row for row in keys[0]] != [
                row[:2] if row[0] == "row" else row for row in keys[1]]:
            return "order"
        rows = [[row[2] for row in some if row[0] == "row"] for some in keys]
        others = [self.put(tie, ends[1][4]) for tie in rows[1]]
        return None if self.same(ties[0], places[0], rows[0], others) else "order"

    def same(self, ties, place, some, others):
        if len(some) != len(others):
            return False
        return all(entailed(ties, place, [], ("same", tie, other)) for tie, other in zip(some, others))

    def at_site(self, ties, place):
        """Return the function, the marked loops, the claims, the ties of the arguments, and the keys to replace."""
        plan = ties.plan
        steps = plan.steps()
        called, terms = (steps[place][2], steps[place][3]) if place < len(steps) else (None, plan.shown())
        loops = plan.open_at(place)
        marks = [loop for loop in loops if loop in plan.marks()]
        keys = {}
        for loop in loops:
            if loop not in marks:
                row = ties.order_key(loop)
                keys[row[2]] = written(plan, place, row[2], marks)
        rows = [("had", plan.table_of(tie[1]), tie) for tie in keys]
        return called, sorted(marks), rows + ties.conditions(place), [ties.tie(term) for term in terms], keys

    def put(self, thing, keys):
        """Return a tie, or a claim, in which keys are replaced."""
        if not isinstance(thing, tuple):
            return thing
        if thing in keys:
            return keys[thing]
        return tuple(self.put(part, keys) for part in thing)

    def test_claims_are_those_that_are_entailed_where_plans_are_alike(self):
        chance = random.Random(6)
        many = 0
        for _ in range(60):
            one = plain_plan(chance)
            other = changed_plan(chance, one)
            if other is None:
                continue
            try:
                found = pairs(one, other)
            except Hidden:
                continue
            for stream, index, place, other_place in found or []:
                for claim in claims(one, other, stream, index):
                    many += 1
                    self.assertIs(True, Closure(one, place).entails(claim))
                for claim in claims(other, one, stream, index):
                    self.assertIs(True, Closure(other, other_place).entails(claim))
        self.assertGreater(many, 20)


if __name__ == "__main__":
    unittest.main()
