import unittest

from plancalls.plans import Plan
from plancalls.schemas import Schema
from things import Equal, EqualityCase, error_of, of_all_sorts, of_other_sorts


def shop(**changed):
    """Return a Schema with functions of all kinds and of none to three arguments."""
    told = {"keys": {"item": "id"}, "references": [("sale", "item", "item")]}
    told.update(changed)
    return Schema({"item": ["id", "price", "net"], "sale": ["item", "many"], "day": ["id"]},
                  {"now": (0, "stable"), "tax": (1, "fixed"), "draw": (2, "changing"), "log": (3, "effect")}, **told)


KEPT = [("each", "k", "item"), ("call", "kt", "tax", (("k", "price"),)), ("unlike", "kt", 0)]
MAIN = [("each", "s", "sale"), ("call", "d", "draw", (("s", "many"), 5)), ("use",),
        ("same", ("s", "item"), ("k", "id")), ("call", "l", "log", (("k", "net"), "kt", "d"))]
SHOWN = ["l", ("k", "price"), -3, "kt", ("s", "many")]


def sales(**changed):
    """Return a Plan that has a bit of everything, with some arguments told otherwise."""
    told = {"schema": shop(), "items": MAIN, "shown": SHOWN, "marks": ["s", "k"], "kept": KEPT}
    told.update(changed)
    return Plan(told.pop("schema"), told.pop("items"), told.pop("shown"), **told)


def all_told(plan):
    """Return what all queries of a Plan return for its own names and places."""
    places = range(len(plan.steps()) + 1)
    told = [plan.main_items(), plan.kept(), plan.shown(), plan.marks(), plan.steps(), plan.loops(), plan.answers()]
    told += [(plan.ahead(place), plan.open_at(place)) for place in places]
    told += [(loop, plan.table_of(loop), plan.place_of(loop)) for loop in plan.loops()]
    return told + [(answer, plan.function(answer), plan.place_of(answer)) for answer in plan.answers()]


def bad_items(items, **more):
    """Return the error of a Plan with these main items."""
    return error_of(lambda: Plan(shop(), items, **more))


# What is no item at any place, whatever stands ahead of it; s is a loop over sale, k one over item, t an answer.
NO_ITEMS = [
    *of_all_sorts(), ["each", "a", "sale"], ["use"], "use", ("each",), ("each", "a"), ("each", "a", "sale", "sale"),
    ("each", "a", "none"), ("each", "a", "tax"), ("each", "a", "id"), ("each", "a", ""), ("each", "a", None),
    ("each", "a", ["sale"]), ("each", "a", Equal()), ("each", "", "sale"), ("each", "A", "sale"),
    ("each", "abcdefghi", "sale"), ("each", 1, "sale"), ("each", None, "sale"), ("each", ["a"], "sale"),
    ("each", ("a",), "sale"), ("each", Equal(), "sale"), ("Each", "a", "sale"), (b"each", "a", "sale"),
    (Equal(), "a", "sale"), (Equal(),), (None, "a", "sale"), (["each"], "a", "sale"), ("every", "a", "sale"),
    ("each", "s", "sale"), ("each", "t", "sale"), ("call", "s", "now", ()), ("call", "t", "now", ()),
    ("call",), ("call", "a"), ("call", "a", "now"), ("call", "a", "now", (), ()), ("call", "a", "none", ()),
    ("call", "a", "sale", ()), ("call", "a", "now", []), ("call", "a", "now", None), ("call", "a", "now", ""),
    ("call", "a", "now", {}), ("call", "a", "now", (1,)), ("call", "a", "tax", ()), ("call", "a", "tax", (1, 2)),
    ("call", "a", "tax", [1]), ("call", "a", "tax", 1), ("call", "a", "tax", {1: 1}), ("call", "a", "tax", "t"),
    ("call", "a", "draw", (1,)), ("call", "a", "draw", (1, 2, 3)), ("call", "a", "draw", ("s", "item")),
    ("call", "a", "log", (1, 2)), ("call", "a", "log", (1, 2, 3, 4)), ("call", "", "now", ()),
    ("call", "A", "now", ()), ("call", 1, "now", ()), ("call", ("a",), "now", ()), ("call", "a", ("now",), ()),
    ("call", "a", ["now"], ()), ("call", "a", Equal(), ()), ("call", Equal(), "now", ()), ("call", "a", "tax", ("a",)),
    ("same",), ("same", 1), ("same", 1, 2, 3), ("unlike",), ("unlike", 1), ("unlike", 1, 2, 3), ("equal", 1, 1),
    ("use", 1), ("use", "use"), ("use", ()), ("use", Equal()), ["same", 1, 1],
]
# What is no term at any place, whatever stands ahead of it.
NO_TERMS = [
    *of_other_sorts(int), True, False, "s", "k", "none", "sale", "tax", "T", "t ", b"t", ("t",), ("s",), ("s", "none"),
    ("s", "price"), ("k", "many"), ("s", "item", "item"), ("none", "item"), ("sale", "item"), ("t", "item"),
    ["s", "item"], ("item", "s"), ("s", 0), (0, "item"), ("s", ("item",)), (("s",), "item"), ("s", ["item"]),
    (["s"], "item"), ("s", None), ("s", Equal()), (Equal(), "item"), (Equal(), Equal()), ("s", "s"), ("", ""), (1, 2),
    ((1, 2), (3, 4)), (("s", "item"),),
]
AHEAD = [("each", "s", "sale"), ("each", "k", "item"), ("call", "t", "now", ())]


class Described(unittest.TestCase):
    def test_the_least_plans(self):
        for plan in [Plan(shop(), []), Plan(shop(), ()), Plan(shop(), [], []), Plan(shop(), (), (), marks=[], kept=[])]:
            self.assertEqual([[], [], [], [], [], [], [], ([], [])], all_told(plan))
        self.assertEqual([7], Plan(Schema({}, {}), [("same", 1, 1)], [7]).shown())

    def test_lists_and_tuples(self):
        plan = Plan(shop(), tuple(MAIN), tuple(SHOWN), marks=("s", "k"), kept=tuple(KEPT))
        self.assertEqual(all_told(sales()), all_told(plan))

    def test_wrong_arguments(self):
        no_series = [*of_other_sorts(list, tuple), {0: ("use",)}, {("same", 1, 1): 1}]
        for thing in [*of_all_sorts(), Schema]:
            with self.subTest(thing=thing):
                self.assertEqual(("Wrong", 0), error_of(lambda: sales(schema=thing)))
        for place, name in enumerate(["items", "shown", "marks", "kept"], 1):
            for thing in no_series:
                with self.subTest(name=name, thing=thing):
                    self.assertEqual(("Wrong", place), error_of(lambda: sales(**{name: thing})))

    def test_marks_that_are_no_names(self):
        for thing in [*of_other_sorts(str), "", "A", "a b", "abcdefghi", "a\n", b"s", ("s",), True]:
            for marks in [[thing], (thing,), ["s", thing], ["none", thing]]:
                with self.subTest(marks=marks):
                    self.assertEqual(("Wrong", 3), error_of(lambda: sales(marks=marks)))

    def test_the_first_wrong_argument_is_told(self):
        names = ["schema", "items", "shown", "marks", "kept"]
        for first in range(5):
            wrong = {name: None for name in names[first:]}
            self.assertEqual(("Wrong", first), error_of(lambda: sales(**wrong)))

    def test_wrong_comes_before_all_else(self):
        self.assertEqual(("Wrong", 2), error_of(lambda: sales(items=[()], shown="l")))
        self.assertEqual(("Wrong", 3), error_of(lambda: sales(items=[()], shown=["none"], marks=[1])))
        self.assertEqual(("Wrong", 4), error_of(lambda: sales(items=[], shown=["none"], marks=["none"], kept={})))


class Items(unittest.TestCase):
    def test_what_is_no_item(self):
        for thing in NO_ITEMS:
            with self.subTest(thing=thing):
                self.assertEqual(("BadItem", 3), bad_items([*AHEAD, thing]))
                self.assertEqual(("BadItem", 3), bad_items((*AHEAD, thing, thing)))
                self.assertEqual(("BadItem", 3), bad_items([("use",)], kept=[*AHEAD, thing]))
                self.assertEqual(("BadItem", 4), bad_items([("use",), thing], kept=AHEAD))

    def test_what_is_no_term(self):
        for thing in NO_TERMS:
            for item in [("same", thing, 1), ("same", 1, thing), ("unlike", thing, 1), ("unlike", 1, thing),
                         ("call", "x", "tax", (thing,)), ("call", "x", "draw", (1, thing)),
                         ("call", "x", "log", (1, thing, 1))]:
                with self.subTest(item=item):
                    self.assertEqual(("BadItem", 3), bad_items([*AHEAD, item]))
                    self.assertEqual(("BadItem", 4), bad_items([("use",), item], kept=AHEAD))

    def test_what_is_a_term(self):
        for term in [0, -1, 10 ** 40, "t", ("s", "item"), ("s", "many"), ("k", "id"), ("k", "net")]:
            items = [*AHEAD, ("same", term, 1), ("unlike", 1, term), ("call", "x", "log", (1, term, term))]
            self.assertEqual(items, Plan(shop(), items).main_items())
            self.assertEqual(items[3:], Plan(shop(), [("use",), *items[3:]], kept=AHEAD).main_items()[1:])

    def test_loops_that_are_not_open_yet(self):
        for items, at in [([("same", ("s", "item"), 1), ("each", "s", "sale")], 0),
                          ([("each", "k", "item"), ("call", "t", "tax", (("s", "item"),)), ("each", "s", "sale")], 1)]:
            self.assertEqual(("BadItem", at), bad_items(items))
            self.assertEqual(("BadItem", at), bad_items([("use",)], kept=items))

    def test_answers_that_stand_behind(self):
        now = ("call", "t", "now", ())
        for items, at in [([("same", "t", 1), now], 0), ([("each", "t", "sale"), ("unlike", 1, "t")], 1),
                          ([("call", "t", "tax", ("t",))], 0),
                          ([("call", "x", "tax", ("t",)), now, ("same", "none", 1)], 0)]:
            self.assertEqual(("BadItem", at), bad_items(items))
            self.assertEqual(("BadItem", at), bad_items([("use",)], kept=items))

    def test_names_that_stand_twice(self):
        loop, answer = ("each", "a", "sale"), ("call", "a", "now", ())
        for first in [loop, answer]:
            for second in [loop, answer, ("each", "a", "item"), ("call", "a", "tax", (1,))]:
                self.assertEqual(("BadItem", 1), bad_items([first, second]))
                self.assertEqual(("BadItem", 2), bad_items([first, ("same", 1, 1), second, second]))
                self.assertEqual(("BadItem", 1), bad_items([("use",)], kept=[first, second]))
                self.assertEqual(("BadItem", 1), bad_items([second, ("use",)], kept=[first]))
                self.assertEqual(("BadItem", 2), bad_items([("use",), second], kept=[first]))

    def test_names_of_other_things_and_words_of_the_items(self):
        items = [("each", "use", "sale"), ("each", "each", "item"), ("call", "call", "now", ()),
                 ("each", "sale", "sale"), ("call", "tax", "tax", (("use", "item"),)), ("same", "call", "tax"),
                 ("call", "same", "now", ()), ("unlike", ("each", "id"), "same"), ("each", "item", "day"),
                 ("same", ("item", "id"), ("sale", "item"))]
        plan = Plan(shop(), items, [("use", "many"), "same"], marks=["use", "item"])
        self.assertEqual(["use", "each", "sale", "item"], plan.loops())
        self.assertEqual(["call", "same", "tax"], plan.answers())
        self.assertEqual(items, plan.ahead(10))
        used = Plan(shop(), [("use",), ("same", ("use", "item"), 1)], kept=[("each", "use", "sale")])
        self.assertEqual([("each", "use", "sale")], used.ahead(2))

    def test_the_first_bad_item_is_told(self):
        good, bad = ("same", 1, 1), ("same", 1, "none")
        self.assertEqual(("BadItem", 1), bad_items([good, bad, good, bad]))
        self.assertEqual(("BadItem", 0), bad_items([bad, good, ("use",)], kept=[bad]))
        self.assertEqual(("BadItem", 2), bad_items([bad, ("use",)], kept=[good, good]))
        self.assertEqual(("BadItem", 1), bad_items([bad, ("use",)], kept=[good, bad]))

    def test_other_schemas(self):
        for schema in [Schema({"sale": ["item", "many"]}, {"tax": (1, "fixed")}), Schema({}, {})]:
            self.assertEqual(("BadItem", 0), error_of(lambda: Plan(schema, [("each", "s", "item")])))
            self.assertEqual(("BadItem", 0), error_of(lambda: Plan(schema, [("call", "t", "now", ())])))


class Use(unittest.TestCase):
    GOOD = ("same", 1, 1)

    def test_where_use_may_stand(self):
        kept = [("each", "k", "item")]
        for items in [[("use",)], [("use",), self.GOOD], [self.GOOD, ("use",)], [self.GOOD, ("use",), self.GOOD]]:
            self.assertEqual(items, Plan(shop(), items, kept=kept).main_items())

    def test_use_without_kept_items(self):
        self.assertEqual(("BadItem", 0), bad_items([("use",)]))
        self.assertEqual(("BadItem", 1), bad_items([self.GOOD, ("use",), self.GOOD]))

    def test_what_is_no_use_where_it_might_stand(self):
        for thing in [("use", 1), ("use", ()), ("use", "use"), (Equal(),), ("Use",), ["use"], "use", Equal(), (),
                      (b"use",)]:
            for items, at in [([thing], 1), ([self.GOOD, thing, ("use",)], 2)]:
                self.assertEqual(("BadItem", at), bad_items(items, kept=[self.GOOD]))

    def test_use_a_second_time(self):
        self.assertEqual(("BadItem", 2), bad_items([("use",), ("use",)], kept=[self.GOOD]))
        self.assertEqual(("BadItem", 4), bad_items([("use",), self.GOOD, ("use",), ("use",)], kept=[self.GOOD] * 2))

    def test_use_among_the_kept_items(self):
        for kept, at in [([("use",)], 0), ([self.GOOD, ("use",)], 1), ([("use",), self.GOOD], 0)]:
            self.assertEqual(("BadItem", at), bad_items([("use",)], kept=kept))
            self.assertEqual(("BadItem", at), bad_items([], kept=kept))

    def test_missing_use(self):
        for items in [[], [self.GOOD], [("each", "use", "sale"), self.GOOD]]:
            self.assertEqual(("NoUse",), bad_items(items, kept=[("each", "k", "item")]))
        self.assertEqual(("BadItem", 1), bad_items([None], kept=[self.GOOD]))

    def test_kept_names_are_known_behind_use_only(self):
        kept = [("each", "k", "item"), ("call", "t", "now", ())]
        for term in ["t", ("k", "id")]:
            self.assertEqual(("BadItem", 2), bad_items([("same", term, 1), ("use",)], kept=kept))
            self.assertEqual(("BadItem", 3), bad_items([self.GOOD, ("call", "x", "tax", (term,)), ("use",)], kept=kept))
            self.assertEqual(4, len(Plan(shop(), [("use",), ("same", term, 1)], kept=kept).steps()))

    def test_main_names_are_not_known_in_kept_items(self):
        main = [("each", "s", "sale"), ("call", "t", "now", ()), ("use",)]
        for term in ["t", ("s", "item")]:
            self.assertEqual(("BadItem", 0), bad_items(main, kept=[("same", term, 1)]))


class ShownAndMarks(unittest.TestCase):
    def test_shown_terms(self):
        for term in [0, -7, "t", ("s", "many"), ("k", "net")]:
            self.assertEqual([term, 1, term], Plan(shop(), AHEAD, (term, 1, term)).shown())
            self.assertEqual([term], Plan(shop(), [("use",)], [term], kept=AHEAD).shown())

    def test_bad_shown_terms(self):
        for thing in NO_TERMS:
            for shown, at in [([thing], 0), ((1, "t", thing), 2), ([1, thing, thing, 1], 1)]:
                with self.subTest(shown=shown):
                    self.assertEqual(("BadShown", at), error_of(lambda: Plan(shop(), AHEAD, shown)))

    def test_bad_marks(self):
        for marks, name in [(["none"], "none"), (["s", "t"], "t"), (["s", "zz", "aa"], "zz"), (("sale",), "sale"),
                            (["tax", "s"], "tax")]:
            self.assertEqual(("BadMark", name), error_of(lambda: Plan(shop(), AHEAD, marks=marks)))
        self.assertEqual(("BadMark", "kt"), error_of(lambda: sales(marks=["k", "kt"])))

    def test_marks(self):
        for marks in [["s", "k", "s"], ("k", "s"), ["k", "k", "s", "k"]]:
            self.assertEqual(["k", "s"], Plan(shop(), AHEAD, marks=marks).marks())
            self.assertEqual(["k", "s"], sales(marks=marks).marks())

    def test_which_error_comes_first(self):
        good, bad = ("same", 1, 1), ("same", 1, None)
        self.assertEqual(("BadItem", 1), bad_items([bad], shown=["none"], marks=["none"], kept=[good]))
        self.assertEqual(("NoUse",), bad_items([good], shown=["none"], marks=["none"], kept=[good]))
        self.assertEqual(("BadShown", 1), bad_items([good], shown=[1, "none"], marks=["none"]))
        self.assertEqual(("BadMark", "none"), bad_items([good], shown=[1], marks=["none"]))


class Queries(unittest.TestCase):
    def test_items(self):
        plan = sales()
        self.assertEqual([MAIN, KEPT, SHOWN, ["k", "s"], KEPT + MAIN],
                         [plan.main_items(), plan.kept(), plan.shown(), plan.marks(), plan.steps()])
        self.assertEqual(MAIN[:2], sales(items=MAIN[:2], shown=[], marks=[], kept=[]).steps())

    def test_ahead(self):
        plan = sales()
        expected = [[], KEPT[:1], KEPT[:2], [], MAIN[:1], MAIN[:2], MAIN[:2] + KEPT, MAIN[:2] + KEPT + MAIN[3:4],
                    MAIN[:2] + KEPT + MAIN[3:]]
        self.assertEqual(expected, [plan.ahead(place) for place in range(9)])
        self.assertEqual([AHEAD[:place] for place in range(4)], [Plan(shop(), AHEAD).ahead(at) for at in range(4)])

    def test_ahead_with_use_first_and_last(self):
        kept = [("each", "k", "item")]
        first = Plan(shop(), [("use",), ("each", "s", "sale")], kept=kept)
        self.assertEqual([[], [], kept, [*kept, ("each", "s", "sale")]], [first.ahead(place) for place in range(4)])
        self.assertEqual([[], [], ["k"], ["k", "s"]], [first.open_at(place) for place in range(4)])
        last = Plan(shop(), [("each", "s", "sale"), ("use",)], kept=kept)
        self.assertEqual([[], [], ["s"], ["s", "k"]], [last.open_at(place) for place in range(4)])
        self.assertEqual([["k", "s"], ["s", "k"]], [first.loops(), last.loops()])

    def test_open_at(self):
        plan = sales()
        self.assertEqual([[], ["k"], ["k"], [], ["s"], ["s"], ["s", "k"], ["s", "k"], ["s", "k"]],
                         [plan.open_at(place) for place in range(9)])
        self.assertEqual(["s", "k"], plan.loops())

    def test_loops_and_answers(self):
        plan = sales()
        self.assertEqual(["sale", "item"], [plan.table_of(loop) for loop in ["s", "k"]])
        self.assertEqual(["d", "kt", "l"], plan.answers())
        self.assertEqual(["draw", "tax", "log"], [plan.function(answer) for answer in plan.answers()])
        self.assertEqual([0, 1, 3, 4, 7], [plan.place_of(name) for name in ["k", "kt", "s", "d", "l"]])

    def test_unknown_names(self):
        plan = sales()
        for name in ["none", "sale", "tax", "use", "same", ""]:
            for query in [plan.table_of, plan.function, plan.place_of]:
                self.assertEqual(("Unknown", name), error_of(lambda: query(name)))
        self.assertEqual(("Unknown", "kt"), error_of(lambda: plan.table_of("kt")))
        self.assertEqual(("Unknown", "k"), error_of(lambda: plan.function("k")))

    def test_schema(self):
        self.assertEqual(shop(), sales().schema)
        with self.assertRaises(AttributeError):
            sales().schema = shop()

    def test_more_steps_and_loops_than_usual(self):
        items = [("each", "abcdefgh"[at], "day") for at in range(8)] + [("same", 1, 1)] * 8
        plan = Plan(shop(), items, list(range(9)), marks=list("abcdefgh"))
        self.assertEqual([16, list("abcdefgh"), 9], [len(plan.steps()), plan.loops(), len(plan.shown())])


class Others(EqualityCase):
    """with_items, with_shown, with_marks and with_schema."""

    def test_what_is_told_anew(self):
        items = [("use",), ("each", "s", "item"), ("call", "l", "now", ())]
        for plan, told in [
            (sales(shown=["l"]).with_items(items), {"items": items, "shown": ["l"]}),
            (sales(shown=["l"]).with_items(tuple(items)), {"items": items, "shown": ["l"]}),
            (sales().with_shown([]), {"shown": []}), (sales().with_shown(("d", 1)), {"shown": ["d", 1]}),
            (sales().with_marks([]), {"marks": []}), (sales().with_marks(("k", "k")), {"marks": ["k"]}),
            (sales().with_schema(shop(keys=None, references=())), {"schema": shop(keys=None, references=())}),
        ]:
            with self.subTest(told=told):
                self.assert_equal(sales(**told), plan)
                self.assertEqual(all_told(sales(**told)), all_told(plan))
                self.assertEqual(sales(**told).schema, plan.schema)

    def test_the_plan_stays(self):
        plan = sales()
        plan.with_shown([]), plan.with_marks([]), plan.with_schema(shop(keys=None, references=()))
        plan.with_shown([]).with_marks([]).with_items([("use",)])
        self.assertEqual(all_told(sales()), all_told(plan))
        self.assert_equal(sales(), plan)

    def test_errors_of_with_items(self):
        plan = sales(shown=[1, "l"])
        for items, error in [
            ([("use",), None], ("BadItem", 4)), ([*MAIN, ("use",)], ("BadItem", 8)), ([], ("NoUse",)),
            ([("each", "k", "sale"), ("use",)], ("BadItem", 3)), ([("each", "s", "sale"), ("use",)], ("BadShown", 1)),
            ([("call", "l", "now", ()), ("use",)], ("BadMark", "s")),
        ]:
            self.assertEqual(error, error_of(lambda: plan.with_items(items)))

    def test_kept_marks_are_told_ascending(self):
        plan = Plan(shop(), [("each", "b", "day"), ("each", "c", "day"), ("each", "a", "day")], marks=["c", "b", "a"])
        self.assertEqual(("BadMark", "a"), error_of(lambda: plan.with_items([])))
        self.assertEqual(("BadMark", "b"), error_of(lambda: plan.with_items([("each", "a", "day")])))
        self.assertEqual(("BadMark", "c"), error_of(lambda: plan.with_items(plan.main_items()[::2])))

    def test_errors_of_the_others(self):
        plan = sales()
        self.assertEqual(("BadShown", 1), error_of(lambda: plan.with_shown([1, "s", "k"])))
        self.assertEqual(("BadShown", 0), error_of(lambda: plan.with_shown(([1], 1))))
        self.assertEqual(("BadMark", "z"), error_of(lambda: plan.with_marks(["s", "z", "a"])))
        functions = {"tax": (1, "fixed"), "draw": (2, "fixed"), "log": (3, "fixed")}
        for tables, at in [({}, 0), ({"item": ["id", "price", "net"]}, 3),
                           ({"item": ["id", "price"], "sale": ["item", "many"]}, 7)]:
            self.assertEqual(("BadItem", at), error_of(lambda: plan.with_schema(Schema(tables, functions))))
        less = Schema({"item": ["id"]}, {})
        more = Plan(shop(), [("each", "k", "item")], [("k", "id"), ("k", "net")])
        self.assertEqual(("BadShown", 1), error_of(lambda: more.with_schema(less)))

    def test_a_plan_over_other_kinds(self):
        kinds = {"now": "effect", "tax": "changing", "draw": "fixed", "log": "stable"}
        plan = sales().with_schema(shop().with_kinds(kinds))
        self.assertEqual(all_told(sales()), all_told(plan))
        self.assertEqual("changing", plan.schema.kind("tax"))
        self.assert_unlike(sales(), plan)
        self.assert_equal(sales(), plan.with_schema(shop()))


class Equality(EqualityCase):
    def test_equal_plans(self):
        self.assert_equal(sales(), sales())
        self.assert_equal(sales(), sales(items=tuple(MAIN), shown=tuple(SHOWN), kept=tuple(KEPT)))
        self.assert_equal(sales(), sales(marks=("k", "s", "s")))
        self.assert_equal(Plan(shop(), []), Plan(shop(), (), (), marks=(), kept=()))

    def test_unlike_plans(self):
        swapped = [*MAIN[:3], MAIN[4], MAIN[3]]
        turned = [*MAIN[:3], ("same", ("k", "id"), ("s", "item")), MAIN[4]]
        for changed in [
            {"schema": shop().with_kinds({"log": "fixed"})}, {"schema": shop(references=())}, {"items": swapped},
            {"items": [*MAIN, ("same", 1, 1)]}, {"items": turned}, {"kept": KEPT[:2]}, {"kept": [*KEPT, KEPT[2]]},
            {"shown": SHOWN[::-1]}, {"shown": SHOWN[:-1]}, {"shown": []}, {"marks": []}, {"marks": ["s"]},
            {"marks": ["k"]},
        ]:
            with self.subTest(changed=changed):
                self.assert_unlike(sales(), sales(**changed))
                self.assert_unlike(sales(**changed), sales())
                self.assert_equal(sales(**changed), sales(**changed))

    def test_kept_and_main_items_are_told_apart(self):
        good = ("same", 1, 1)
        self.assert_unlike(Plan(shop(), [good, ("use",)], kept=[good]), Plan(shop(), [("use",)], kept=[good, good]))
        self.assert_unlike(Plan(shop(), [good]), Plan(shop(), [("use",)], kept=[good]))

    def test_things_of_other_sorts(self):
        for thing in [*of_all_sorts(), shop(), MAIN]:
            with self.subTest(thing=thing):
                self.assert_unlike(sales(), thing)
                if not isinstance(thing, Equal):
                    self.assert_unlike(thing, sales())


class Owned(unittest.TestCase):
    def test_what_is_passed_in_is_copied(self):
        items, shown, marks, kept = list(MAIN), list(SHOWN), ["s", "k"], list(KEPT)
        plan = Plan(shop(), items, shown, marks=marks, kept=kept)
        for passed in [items, shown, marks, kept]:
            passed.reverse()
            passed.append("new")
        self.assertEqual(all_told(sales()), all_told(plan))
        items, shown, marks = list(MAIN), list(SHOWN), ["s", "k"]
        plans = [plan.with_items(items), plan.with_shown(shown), plan.with_marks(marks)]
        for passed in [items, shown, marks]:
            passed.clear()
        for other in plans:
            self.assertEqual(all_told(sales()), all_told(other))

    def test_arguments_are_not_changed(self):
        told = {"items": list(MAIN), "shown": list(SHOWN), "marks": ["s", "k", "s"], "kept": list(KEPT)}
        before = repr(told)
        sales(**told)
        self.assertEqual(before, repr(told))
        told["marks"].append("none")
        before = repr(told)
        self.assertEqual(("BadMark", "none"), error_of(lambda: sales(**told)))
        self.assertEqual(before, repr(told))

    def test_what_is_returned_is_new(self):
        plan = sales()
        for query in [plan.main_items, plan.kept, plan.shown, plan.marks, plan.steps, plan.loops, plan.answers]:
            query().append("new")
            query().reverse()
        for place in range(9):
            plan.ahead(place).append("new")
            plan.open_at(place).append("new")
        self.assertEqual(all_told(sales()), all_told(plan))
        self.assertEqual(sales(), plan)

    def test_lists_that_are_returned_may_be_passed_in(self):
        one = sales()
        items, shown, marks, kept = one.main_items(), one.shown(), one.marks(), one.kept()
        other = Plan(one.schema, items, shown, marks=marks, kept=kept)
        for passed in [items, shown, marks, kept]:
            passed.clear()
        self.assertEqual(one, other)

    def test_nothing_changes_where_an_error_is_raised(self):
        plan = sales()
        for call in [lambda: plan.table_of("none"), lambda: plan.function("k"), lambda: plan.place_of("none"),
                     lambda: plan.with_items([]), lambda: plan.with_shown(["none"]), lambda: plan.with_marks(["none"]),
                     lambda: plan.with_schema(Schema({}, {}))]:
            error_of(call)
            self.assertEqual(all_told(sales()), all_told(plan))


if __name__ == "__main__":
    unittest.main()
