"""Books: deeds, what they raise, what is taken back and done again, and the Plans behind them [103] [14]."""

import random
import unittest

from lands import LANDS, planned
from pairings import plain_plan
from plancalls.book import Book
from plancalls.errors import PlanError
from plancalls.plans import Plan
from plancalls.schemas import Schema
from things import Equal, EqualityCase, error_of, of_all_sorts

W, T = ("each", "w", "ware"), ("each", "t", "town")
MEET = ("same", ("t", "id"), ("w", "town"))
NOW, LOG = ("call", "n", "now", (("w", "cost"),)), ("call", "x", "log", ("n",))
BIG = 10 ** 40 - 1


def book_of(*deeds, schema=LANDS):
    """Return a Book in which deeds were done."""
    book = Book(schema)
    for deed in deeds:
        book.do(deed)
    return book


def puts(*items):
    """Return the deeds that put items behind one another."""
    return [("put", at, item) for at, item in enumerate(items)]


class Case(EqualityCase):
    def refused(self, expected, book, *deeds):
        """Check what deeds raise, and that nothing changes."""
        for deed in deeds:
            with self.subTest(deed):
                before = (book.log(), book.plan(), book.schema, len(book))
                self.assertEqual(expected, error_of(lambda: book.do(deed)))
                self.assertEqual(before, (book.log(), book.plan(), book.schema, len(book)))


class Begin(Case):
    def test_an_empty_book(self):
        book = Book(LANDS)
        self.assertEqual((Plan(LANDS, []), [], 0, LANDS), (book.plan(), book.log(), len(book), book.schema))
        self.assertEqual(Plan(LANDS, []), book.until(0))
        self.assertIsInstance(book.plan(), Plan)

    def test_what_is_no_schema(self):
        for thing in of_all_sorts():
            self.assertEqual(("Wrong", 0), error_of(lambda: Book(thing)))
        self.assertEqual(("Wrong", 0), error_of(lambda: Book(Schema)))
        self.assertEqual(("Wrong", 0), error_of(lambda: Book(Book(LANDS))))


class Items(Case):
    def test_put(self):
        book = book_of(("put", 0, W), ("put", 1, NOW), ("put", 0, T), ("put", 2, MEET))
        self.assertEqual(planned(T, W, MEET, NOW), book.plan())
        self.assertIsNone(book.do(("put", 4, LOG)))
        self.assertEqual(planned(T, W, MEET, NOW, LOG), book.plan())

    def test_take(self):
        book = book_of(*puts(W, T, MEET), ("take", 2), ("take", 0))
        self.assertEqual(planned(T), book.plan())
        book.do(("take", 0))
        self.assertEqual(planned(), book.plan())

    def test_move(self):
        items = [("same", number, 0) for number in range(4)]
        for at in range(4):
            for to in range(4):
                book = book_of(*puts(*items), ("move", at, to))
                found = book.plan().main_items()
                self.assertEqual(items[at], found[to])
                self.assertEqual(items[:at] + items[at + 1:], found[:to] + found[to + 1:])

    def test_indexes_one_beyond(self):
        book = book_of(*puts(W, NOW))
        self.refused(("NoEntry", 3), book, ("put", 3, LOG), ("take", 3), ("move", 3, 0), ("move", 3, 5), ("move", 0, 3))
        self.refused(("NoEntry", 2), book, ("take", 2), ("move", 2, 2), ("move", 1, 2), ("move", 2, 9))
        self.refused(("NoEntry", BIG), book, ("put", BIG, LOG), ("take", BIG), ("move", BIG, BIG + 1), ("move", 1, BIG))
        self.refused(("NoEntry", 0), Book(LANDS), ("take", 0), ("move", 0, 0))
        self.refused(("NoEntry", 1), Book(LANDS), ("put", 1, W), ("put", 1, ()))

    def test_what_plan_raises(self):
        book = book_of(*puts(W, NOW, LOG), ("show", ("x",)), ("mark", ("w",)))
        self.refused(("BadItem", 1), book, ("put", 1, W), ("put", 1, ("use",)), ("put", 1, ()), ("put", 1, (Equal(),)),
                     ("put", 1, ("each", "z", "none")), ("put", 1, MEET), ("move", 2, 1), ("take", 1))
        self.refused(("BadItem", 2), book, ("put", 1, ("call", "n", "log", (1,))), ("put", 2, NOW))
        self.refused(("BadItem", 0), book, ("put", 0, NOW), ("take", 0), ("move", 1, 0))
        self.refused(("BadItem", 0), book, ("move", 0, 2))
        self.refused(("BadShown", 0), book, ("take", 2))
        self.refused(("BadMark", "w"), book_of(*puts(W), ("mark", ("w",))), ("take", 0))
        # Where a name is given twice the later step is the one that is told.
        self.refused(("BadItem", 1), book_of(*puts(W)), ("put", 0, ("call", "w", "ping", ())))

    def test_kept_items_count_among_the_steps(self):
        book = book_of(*puts(W, NOW, LOG), ("keep", 1))
        self.refused(("BadItem", 3), book, ("put", 2, ("each", "n", "ware")), ("put", 2, ("use",)))
        self.refused(("BadItem", 1), book, ("put", 0, NOW), ("move", 1, 0), ("move", 0, 1))
        self.refused(("NoUse",), book_of(*puts(W, T), ("keep", 1)), ("take", 0))


class Terms(Case):
    def test_show_and_mark(self):
        book = book_of(*puts(W, T, NOW), ("show", (("w", "net"), "n", 4)), ("mark", ("w", "t")))
        self.assertEqual(planned(W, T, NOW, shown=[("w", "net"), "n", 4], marks=["t", "w"]), book.plan())
        book.do(("show", ()))
        book.do(("mark", ("t", "t")))
        self.assertEqual(planned(W, T, NOW, marks=["t"]), book.plan())
        book.do(("mark", ()))
        self.assertEqual(planned(W, T, NOW), book.plan())
        self.assertEqual(("mark", ("t", "t")), book.log()[-2])

    def test_what_plan_raises(self):
        book = book_of(*puts(W, NOW))
        self.refused(("BadShown", 1), book, ("show", (1, "w")), ("show", (1, ("t", "id"), "w")), ("show", (1, [])),
                     ("show", (1, True)), ("show", (1, Equal(), 2)))
        self.refused(("BadMark", "t"), book, ("mark", ("w", "t", "u")), ("mark", ("t",)))
        self.refused(("BadMark", "n"), book, ("mark", ("n",)))


class Kept(Case):
    def test_keep(self):
        for many in (1, 2, 3):
            kept, items = [W, NOW, LOG][:many], [("use",), *[W, NOW, LOG][many:]]
            book = book_of(*puts(W, NOW, LOG), ("show", ("n",)), ("mark", ("w",)), ("keep", many))
            self.assertEqual(planned(*items, kept=kept, shown=["n"], marks=["w"]), book.plan())
            book.do(("unkeep",))
            self.assertEqual(planned(W, NOW, LOG, shown=["n"], marks=["w"]), book.plan())

    def test_unkeep_where_use_stands(self):
        book = book_of(*puts(W, T, NOW), ("keep", 1), ("move", 0, 1), ("unkeep",))
        self.assertEqual(planned(T, W, NOW), book.plan())

    def test_keep_again(self):
        book = book_of(*puts(W, T), ("keep", 1), ("unkeep",), ("keep", 2))
        self.assertEqual(planned(("use",), kept=[W, T]), book.plan())

    def test_more_than_there_are_then_unfit(self):
        book = book_of(*puts(W, T))
        self.refused(("NoEntry", 3), book, ("keep", 3))
        self.refused(("NoEntry", BIG), book, ("keep", BIG))
        self.refused(("NoEntry", 1), Book(LANDS), ("keep", 1))
        self.refused(("Unfit",), book, ("unkeep",))
        book.do(("keep", 1))
        self.refused(("NoEntry", 3), book, ("keep", 3))
        self.refused(("Unfit",), book, ("keep", 1), ("keep", 2))
        book.do(("unkeep",))
        self.refused(("Unfit",), book, ("unkeep",))

    def test_items_around_use(self):
        book = book_of(*puts(W, NOW), ("keep", 1), ("put", 0, T), ("put", 2, MEET))
        self.assertEqual(planned(T, ("use",), MEET, NOW, kept=[W]), book.plan())
        book.do(("take", 3))
        book.do(("move", 1, 0))
        self.assertEqual(planned(("use",), T, MEET, kept=[W]), book.plan())


class Kinds(Case):
    def test_a_kind_told_anew(self):
        book = book_of(*puts(W, NOW), ("kind", "now", "effect"), ("kind", "log", "fixed"))
        schema = LANDS.with_kinds({"now": "effect", "log": "fixed"})
        self.assertEqual((schema, planned(W, NOW, schema=schema)), (book.schema, book.plan()))
        self.assertEqual(("kind", "log", "fixed"), book.back())
        self.assertEqual(LANDS.with_kinds({"now": "effect"}), book.schema)
        self.assertEqual("effect", book.plan().schema.kind("now"))

    def test_what_with_kinds_raises(self):
        self.refused(("Unknown", "none"), Book(LANDS), ("kind", "none", "fixed"))
        self.refused(("NotFixed", "fix"), Book(LANDS), ("kind", "fix", "stable"), ("kind", "fix", "effect"))
        self.assertEqual("fixed", book_of(("kind", "fix", "fixed")).schema.kind("fix"))

    def test_until(self):
        book = book_of(("put", 0, W), ("kind", "now", "effect"), ("put", 1, NOW))
        effect = LANDS.with_kinds({"now": "effect"})
        expected = [planned(), planned(W), planned(W, schema=effect), planned(W, NOW, schema=effect)]
        self.assertEqual(expected, [book.until(many) for many in range(4)])
        self.assertEqual(LANDS, book.until(1).schema)


class Wrong(Case):
    def test_other_values(self):
        for thing in of_all_sorts():
            self.refused(("Wrong", 0), Book(LANDS), thing)

    def test_deeds_told_otherwise(self):
        book = book_of(*puts(W, NOW))
        self.refused(("Wrong", 0), book, ["take", 0], ("take",), ("take", 0, 0), ("tuck", 0), ("Take", 0), (0, "take"),
                     ("put", 0), ("put", 0, NOW, 1), ("put", NOW, 0), ("put", 0, list(LOG)), ("put", 0, "use"),
                     ("move", 0), ("move", 0, 1, 1), ("show",), ("show", ["n"]), ("show", "n"), ("show", 1),
                     ("show", 1, 2),
                     ("mark", "w"), ("mark", ["w"]), ("mark", (1,)), ("mark", ("W",)), ("mark", (("w",),)), ("mark",),
                     ("mark", (None,)), ("mark", "w", "t"), ("keep",), ("keep", 1, 1), ("unkeep", 1), ("unkeep", ()),
                     ("kind", "now"), ("kind", "now", "fixed", 1), ("kind", "Now", "fixed"), ("kind", "now", "free"),
                     ("kind", 1, "fixed"), ("kind", "now", 1), ("kind", "now", ["fixed"]), ("kind", Equal(), "fixed"),
                     ("kind", "now", Equal()), (Equal(), 0), ("mark", (Equal(),)), (("take",), 0), ((), 0),
                     (["take"], 0))

    def test_truths_texts_and_integers_below_0(self):
        book = book_of(*puts(W, NOW))
        for at in (True, False, "0", "1", None, -1, -BIG, (0,), [0], Equal()):
            self.refused(("Wrong", 0), book, ("put", at, LOG), ("take", at), ("move", at, 0), ("move", 0, at),
                         ("keep", at))
        self.refused(("Wrong", 0), book, ("keep", 0), ("move", 9, -1), ("put", -1, ()))

    def test_great_values(self):
        book = book_of(*puts(W))
        self.refused(("Wrong", 0), book, tuple(range(10000)), ("show", [0] * 9998), "take 0" * 1000, ("9" * 5000,))
        self.refused(("BadItem", 1), book, ("put", 1, tuple(range(9997))), ("put", 1, ((((((((((1,),),),),),),),),),)))
        self.refused(("BadMark", "t"), book, ("mark", ("w",) * 9990 + ("t",)))
        book.do(("show", (0,) * 9000))
        self.assertEqual(9000, len(book.plan().shown()))

    def test_ahead_of_full(self):
        book = book_of(*[("mark", ())] * 60)
        self.refused(("Wrong", 0), book, None, ("take", -1), ("keep", 0))


class Full(Case):
    def test_sixty_deeds(self):
        book = book_of(*[("put", at, ("same", at, at)) for at in range(59)])
        book.do(("show", ()))
        self.assertEqual(60, len(book))
        self.refused(("Full", 60), book, ("mark", ()), ("take", 99), ("keep", 99), ("unkeep",), ("put", 0, ()),
                     ("kind", "none", "fixed"), ("show", ("z",)))
        self.assertEqual(("show", ()), book.back())
        self.refused(("NoEntry", 99), book, ("take", 99))
        self.assertEqual(("show", ()), book.again())
        self.refused(("Full", 60), book, ("mark", ()))
        self.assertEqual(59, len(book.until(60).main_items()))


class BackAndAgain(Case):
    def test_nothing(self):
        book = Book(LANDS)
        for call in (book.back, book.again):
            self.assertEqual(("Nothing",), error_of(call))
        book.do(("put", 0, W))
        self.assertEqual(("Nothing",), error_of(book.again))
        book.back()
        self.assertEqual(("Nothing",), error_of(book.back))
        self.assertEqual((planned(), []), (book.plan(), book.log()))

    def test_several_times(self):
        deeds = [*puts(W, NOW), ("keep", 1), ("kind", "now", "effect"), ("mark", ("w",))]
        book = book_of(*deeds)
        plans = [book.until(many) for many in range(6)]
        self.assertEqual(deeds[:1:-1], [book.back() for _ in range(3)])
        self.assertEqual((deeds[:2], plans[2], 2, LANDS), (book.log(), book.plan(), len(book), book.schema))
        self.assertEqual(deeds[2:4], [book.again(), book.again()])
        self.assertEqual((deeds[:4], plans[4]), (book.log(), book.plan()))
        self.assertEqual(deeds[3], book.back())
        self.assertEqual(deeds[3:], [book.again(), book.again()])
        self.assertEqual(("Nothing",), error_of(book.again))
        self.assertEqual((deeds, plans[5]), (book.log(), book.plan()))

    def test_behind_a_deed_that_was_refused(self):
        book = book_of(*puts(W, NOW))
        book.back()
        for deed in (None, ("take", 5), ("put", 0, NOW), ("unkeep",)):
            error_of(lambda: book.do(deed))
        self.assertEqual(("put", 1, NOW), book.again())

    def test_behind_a_deed_that_was_done(self):
        book = book_of(*puts(W, NOW))
        book.back()
        book.do(("mark", ("w",)))
        self.assertEqual(("Nothing",), error_of(book.again))
        self.assertEqual(("mark", ("w",)), book.back())
        self.assertEqual(("mark", ("w",)), book.again())
        self.assertEqual(("Nothing",), error_of(book.again))

    def test_until_counts_the_deeds_of_the_log_alone(self):
        book = book_of(*puts(W, NOW))
        book.back()
        for many in (2, 3, -1, BIG, -BIG):
            self.assertEqual(("NoEntry", many), error_of(lambda: book.until(many)))
        self.assertEqual(planned(W), book.until(1))


class Copies(Case):
    def test_copies_go_on_by_themselves(self):
        book = book_of(*puts(W, NOW), ("kind", "now", "effect"))
        book.back()
        twin = book.copied()
        self.assert_equal(book, twin)
        self.assertEqual((book.log(), book.plan(), book.schema), (twin.log(), twin.plan(), twin.schema))
        self.assertEqual(("kind", "now", "effect"), twin.again())
        self.assert_unlike(book, twin)
        self.assertEqual((2, 3), (len(book), len(twin)))
        book.do(("take", 1))
        self.assertEqual(("Nothing",), error_of(book.again))
        self.assertEqual([("kind", "now", "effect"), ("put", 1, NOW)], [twin.back(), twin.back()])
        self.assertEqual((planned(W), planned(W)), (book.plan(), twin.plan()))
        self.assertEqual((3, 1), (len(book), len(twin)))

    def test_a_copy_has_the_kinds_that_were_told(self):
        twin = book_of(("kind", "now", "effect")).copied()
        self.assertEqual(LANDS.with_kinds({"now": "effect"}), twin.schema)
        self.assertEqual(("kind", "now", "effect"), twin.back())
        self.assertEqual(LANDS, twin.schema)

    def test_a_copy_of_an_empty_one(self):
        twin = Book(LANDS).copied()
        twin.do(("put", 0, W))
        self.assertEqual([("put", 0, W)], twin.log())

    def test_lists_are_new(self):
        book = book_of(*puts(W))
        book.log().clear()
        book.plan().main_items().clear()
        self.assertEqual([("put", 0, W)], book.log())
        self.assertEqual(planned(W), book.plan())


class Equality(Case):
    def test_equal_logs_and_schemas(self):
        self.assert_equal(Book(LANDS), Book(LANDS.with_kinds({})))
        self.assert_equal(book_of(*puts(W)), book_of(*puts(W)))
        self.assert_unlike(book_of(*puts(W)), Book(LANDS))
        self.assert_unlike(Book(LANDS), Book(LANDS.with_kinds({"log": "fixed"})))

    def test_what_they_were_made_of_counts_not_what_comes_of_it(self):
        told = book_of(("kind", "log", "fixed"))
        self.assert_unlike(told, Book(LANDS.with_kinds({"log": "fixed"})))
        self.assert_unlike(book_of(*puts(W), ("take", 0)), Book(LANDS))
        other = book_of(("kind", "log", "fixed"), schema=LANDS.with_kinds({"log": "stable"}))
        self.assertEqual(told.schema, other.schema)
        self.assert_unlike(told, other)

    def test_what_was_taken_back_does_not_count(self):
        book = book_of(*puts(W))
        book.back()
        self.assert_equal(book, Book(LANDS))

    def test_nothing_else_is_equal(self):
        for thing in of_all_sorts():
            if not isinstance(thing, Equal):
                self.assert_unlike(Book(LANDS), thing)
        self.assert_unlike(Book(LANDS), LANDS)
        self.assert_unlike(Book(LANDS), planned())


class ByChance(unittest.TestCase):
    def test_the_plan_is_the_one_to_which_the_log_leads(self):
        chance = random.Random(103)
        refused = done = 0
        for _ in range(60):
            plan = plain_plan(chance)
            book, undone, log = Book(plan.schema), [], []
            pool = [*plan.steps(), ("use",)]
            words = ["put"] * 6 + ["take", "move", "show", "mark", "keep", "unkeep", "kind", "back", "again"]
            for _ in range(80):
                word = chance.choice(words)
                try:
                    if word == "back":
                        undone.append(book.back())
                        log.pop()
                    elif word == "again":
                        self.assertEqual(undone[-1:], [book.again()])
                        log.append(undone.pop())
                    else:
                        deed = self.deed(chance, word, plan, pool)
                        book.do(deed)
                        log, undone = [*log, deed], []
                    done += 1
                except PlanError:
                    refused += 1
                self.assertEqual(log, book.log())
            again = Book(plan.schema)
            for many, deed in enumerate(log):
                self.assertEqual(again.plan(), book.until(many))
                again.do(deed)
            self.assertEqual((again, again.plan(), again.schema), (book, book.plan(), book.schema))
        self.assertGreater(min(refused, done), 300)

    def deed(self, chance, word, plan, pool):
        at, to = chance.randint(0, 5), chance.randint(0, 5)
        names = tuple(chance.sample(plan.loops(), chance.randint(0, len(plan.loops()))))
        return {"put": ("put", at, chance.choice(pool)), "take": ("take", at), "move": ("move", at, to),
                "mark": ("mark", names), "show": ("show", tuple(plan.shown()[:at])), "keep": ("keep", at + 1),
                "unkeep": ("unkeep",),
                "kind": ("kind", chance.choice(plan.schema.functions()), chance.choice(["stable", "effect"]))}[word]


if __name__ == "__main__":
    unittest.main()
