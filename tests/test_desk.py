"""Lines that write in a book and ask it [105]."""

import unittest

from lands import LANDS, planned
from plancalls.book import Book
from plancalls.desk import Desk
from plancalls.notation import show_plan, show_schema
from plancalls.schemas import Schema
from things import error_of, of_all_sorts

BIG = "9" * 40
NO_COMMAND = ("NoCommand",)


def desk_of(*lines, schema=LANDS):
    """Return a Desk at which lines were executed."""
    desk = Desk(schema)
    for line in lines:
        desk.execute(line)
    return desk


class Case(unittest.TestCase):
    def refused(self, expected, desk, *lines):
        """Check what lines raise, and that nothing changes."""
        for line in lines:
            with self.subTest(line):
                before = [desk.execute(asked) for asked in ("plan", "schema", "log", "plain")]
                self.assertEqual(expected, error_of(lambda: desk.execute(line)))
                self.assertEqual(before, [desk.execute(asked) for asked in ("plan", "schema", "log", "plain")])


class Begin(Case):
    def test_an_empty_desk(self):
        desk = Desk(LANDS)
        self.assertEqual(["", "", "plain", "1", show_schema(LANDS)],
                         [desk.execute(line) for line in ("plan", "log", "plain", "orders", "schema")])
        self.refused(("Nothing",), desk, "back", "again")

    def test_what_is_no_schema(self):
        for thing in [*of_all_sorts(), Book(LANDS), Desk(LANDS), Schema]:
            self.assertEqual(("Wrong", 0), error_of(lambda: Desk(thing)))


class Deeds(Case):
    def test_each_deed(self):
        desk = Desk(LANDS)
        lines = ["put 0 each w ware", "put 1 call n now w.cost", "put 2 unlike n -3", "put 0 each t town",
                 "put 4 same t.id w.town", "move 4 2", "take 4", "show n w.net 7", "mark t w", "keep 1", "unkeep",
                 "kind now changing", "put 0 same 1 1", "keep 2", "put 3 use"]
        for line in lines[:-1]:
            self.assertEqual("-", desk.execute(line))
        self.refused(("BadItem", 5), desk, lines[-1])
        self.assertEqual("".join(f"{line}\n" for line in lines[:-1]), desk.execute("log"))
        plan = planned(("use",), ("each", "w", "ware"), ("same", ("t", "id"), ("w", "town")),
                       ("call", "n", "now", (("w", "cost"),)), kept=[("same", 1, 1), ("each", "t", "town")],
                       shown=["n", ("w", "net"), 7], marks=["t", "w"], schema=LANDS.with_kinds({"now": "changing"}))
        self.assertEqual(show_plan(plan), desk.execute("plan"))
        self.assertEqual(show_schema(plan.schema), desk.execute("schema"))

    def test_no_terms_and_no_marks(self):
        desk = desk_of("put 0 each w ware", "show w.cost", "mark w", "show", "mark")
        self.assertEqual("each w ware\n", desk.execute("plan"))
        self.assertEqual("put 0 each w ware\nshow w.cost\nmark w\nshow\nmark\n", desk.execute("log"))
        self.assertEqual("-", desk.execute("mark w w"))
        self.assertEqual("mark w w", desk.execute("back"))

    def test_words_as_names(self):
        schema = Schema({"use": ["show"], "put": ["mark"]}, {"kept": (1, "stable"), "back": (0, "effect")})
        desk = desk_of("put 0 each plan use", "put 1 call take kept plan.show", "put 2 call log back",
                       "put 3 same take log",
                       "show take plan.show log", "mark plan", "kind back stable", schema=schema)
        lines = ["each plan use", "call take kept plan.show", "call log back", "same take log",
                 "show take plan.show log", "mark plan"]
        self.assertEqual("".join(f"{line}\n" for line in lines), desk.execute("plan"))

    def test_errors_of_the_book(self):
        desk = desk_of("put 0 each w ware", "put 1 call n now w.cost")
        self.refused(("NoEntry", 3), desk, "put 3 use", "take 3", "move 3 9", "move 1 3", "keep 3")
        self.refused(("NoEntry", int(BIG)), desk, f"put {BIG} use", f"take {BIG}", f"move 0 {BIG}", f"keep {BIG}")
        self.refused(("BadItem", 0), desk, "put 0 use", "take 0", "move 0 1", "put 0 same x 1", "put 0 each s none")
        self.refused(("BadItem", 2), desk, "put 2 each w ware", "put 2 call x now", "put 2 call x none 1", "put 2 use")
        self.refused(("BadShown", 1), desk, "show 1 x", "show n w.none t.id")
        self.refused(("BadMark", "t"), desk, "mark w t", "mark t")
        self.refused(("Unfit",), desk, "unkeep")
        self.refused(("Unknown", "none"), desk, "kind none fixed")
        self.refused(("NotFixed", "fix"), desk, "kind fix stable")
        self.refused(("Unfit",), desk_of("put 0 same 1 1", "keep 1"), "keep 1")
        self.refused(("NoUse",), desk_of("put 0 same 1 1", "keep 1"), "take 0")

    def test_a_full_log(self):
        desk = desk_of(*["mark"] * 60)
        self.refused(("Full", 60), desk, "mark", "take 5", "put 0 use", "unkeep", "kind none fixed", "keep 7", "show x")
        self.refused(NO_COMMAND, desk, "take -1", "put 0 x", "plans", "keep 0")
        self.assertEqual(["", "plain", "1", "mark\n" * 60],
                         [desk.execute(line) for line in ("plan", "plain", "orders", "log")])
        self.assertEqual(["mark", "mark"], [desk.execute("back"), desk.execute("again")])
        self.refused(("Full", 60), desk, "mark")


class BackAndAgain(Case):
    def test_the_lines_of_the_deeds(self):
        lines = ["put 0 each w ware", "put 1 call x ping", "move 1 0", "take 0", "show w.cost -1", "keep 1", "unkeep",
                 "mark w",
                 "kind log stable", "show", "mark"]
        desk = desk_of(*lines)
        self.assertEqual(lines[::-1], [desk.execute("back") for _ in lines])
        self.refused(("Nothing",), desk, "back")
        self.assertEqual(lines, [desk.execute("again") for _ in lines])
        self.refused(("Nothing",), desk, "again")

    def test_behind_a_line_that_was_refused_and_one_that_was_done(self):
        desk = desk_of("put 0 each w ware", "mark w")
        desk.execute("back")
        self.refused(("NoEntry", 5), desk, "take 5")
        self.refused(NO_COMMAND, desk, "take five")
        self.assertEqual("mark w", desk.execute("again"))
        desk.execute("back")
        desk.execute("show 1")
        self.refused(("Nothing",), desk, "again")


class Asked(Case):
    def test_plain(self):
        desk = desk_of("put 0 each w ware", "put 1 call x log 1", "put 2 each t town", "put 3 same t.id 4")
        self.assertEqual("hidden 1 w", desk.execute("plain"))
        desk.execute("mark w")
        self.assertEqual("plain", desk.execute("plain"))
        desk.execute("take 3")
        self.assertEqual("hidden 3 t", desk.execute("plain"))
        # Loose goes first.
        desk.execute("keep 2")
        self.assertEqual("loose 1", desk.execute("plain"))
        desk.execute("kind log fixed")
        self.assertEqual("hidden 4 t", desk.execute("plain"))

    def test_orders(self):
        desk = desk_of("put 0 each w ware", "put 1 same w.cost 1", "put 2 call n now w.cost", "mark w")
        self.assertEqual("2", desk.execute("orders"))
        for name in "abcdefg":
            desk.execute(f"put 3 call {name} fix 1")
        self.assertEqual(str(2 * 3 * 4 * 5 * 6 * 7 * 8 * 9 * 10 // 3), desk.execute("orders"))
        self.refused(("Hidden", 10, "w"),
                     desk_of(*[line for line in desk.execute("log").splitlines() if line != "mark w"]),
                     "orders")
        self.refused(("Loose", 0), desk_of("put 0 call x ping", "keep 1"), "orders")


class NoCommand(Case):
    def test_other_values(self):
        for thing in of_all_sorts():
            self.refused(NO_COMMAND, Desk(LANDS), thing)
        self.refused(NO_COMMAND, Desk(LANDS), ["plan"], ("plan",), b"plan", ("take", 0), {"plan": 1}, "9" * 5000,
                     "put " * 2500)

    def test_lines_told_otherwise(self):
        desk = desk_of("put 0 each w ware", "put 1 call n now w.cost")
        self.refused(NO_COMMAND, desk, "", " ", "Plan", "plan ", " plan", "plan\n", "plan x", "plans", "log 1",
                     "schema a", "orders 1",
                     "plain w", "back 1", "again 1", "back ", "backagain", "again\n", "do", "put", "put 0", "put 0 ",
                     "put each w ware",
                     "put 0 each w", "put 0 each w ware x", "put 0  each t town", "put 0 call x log 1 2 3 4",
                     "put x use",
                     "put 0 show 1", "put 0 mark w", "put 0 kept use", "put 0 use\n", "put 0 same 1", "take",
                     "take 0 1", "take x",
                     "take  0", "take 0 ", "move 1", "move 0 1 1", "move 0", "move", "keep", "keep 1 1", "unkeep 1",
                     "unkeep ",
                     "kind", "kind now", "kind now free", "kind now fixed x", "kind Now fixed", "kind 1 fixed",
                     "kind now Fixed",
                     "mark 1", "mark w.cost", "mark W", "mark ", "mark w ", "mark  w", "show ", "show 1 ", "show  1",
                     "show w.", "show W",
                     "show w.cost.x", "until 1", "use", "each t town", "same 1 1", "-")

    def test_integers_told_otherwise(self):
        desk = desk_of("put 0 each w ware", "put 1 call n now w.cost")
        for at in ("-1", "-0", "+1", "01", "00", "1.0", "0x0", "\u0660", "\uff10", "9" * 41, "9" * 5000, "1_0", "--1",
                   "-", "", "true"):
            self.refused(NO_COMMAND, desk, f"put {at} same 1 1", f"take {at}", f"move {at} 0", f"move 0 {at}",
                         f"keep {at}")
        self.refused(NO_COMMAND, desk, "keep 0", "show -0", "show 01", "show " + "1" * 41, "put 0 same 1 +1",
                     "show \u0661")
        self.assertEqual("-", desk.execute(f"show {BIG} -{BIG}"))
        self.assertEqual(f"each w ware\ncall n now w.cost\nshow {BIG} -{BIG}\n", desk.execute("plan"))


if __name__ == "__main__":
    unittest.main()
