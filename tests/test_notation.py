"""Terms, items, plans and schemas as texts, and what is no such text [104]."""

import random
import unittest

from lands import CHAIN, LANDS, planned
from pairings import plain_plan
from plancalls.notation import (read_item, read_plan, read_schema, read_term, show_item, show_plan, show_schema,
                                show_term)
from plancalls.plans import Plan
from plancalls.schemas import Schema
from richly import rich_schema
from things import error_of, of_all_sorts

BIG = 10 ** 40 - 1
WORDS = ["use", "each", "show", "mark", "kept", "call", "same", "unlike"]
W, T = ("each", "w", "ware"), ("each", "t", "town")
FULL = planned(T, ("use",), ("same", ("t", "id"), ("w", "town")), ("call", "d", "add", (("w", "cost"), -7)),
               ("unlike", "d", 0), ("call", "p", "ping", ()), shown=[("t", "near"), "d", BIG, "x"], marks=["w", "t"],
               kept=[W, ("call", "x", "now", (3,))])
FULL_TEXT = """\
kept each w ware
kept call x now 3
each t town
use
same t.id w.town
call d add w.cost -7
unlike d 0
call p ping
show t.near d 9999999999999999999999999999999999999999 x
mark t w
"""
SHOP = Schema({"item": ["id", "price", "net"], "sale": ["item"], "a": ["z", "b"]},
              {"tax": (1, "fixed"), "log": (3, "effect"), "nil": (0, "fixed")}, keys={"sale": "item", "item": "id"},
              references=[("sale", "item", "item"), ("a", "z", "sale"), ("a", "z", "item")],
              made=[("item", "price", "nil", ()), ("item", "net", "tax", ("price",))])
SHOP_TEXT = """\
table a z b
table item id price net
table sale item
key item id
key sale item
reference a z item
reference a z sale
reference sale item item
made item net tax price
made item price nil
function log 3 effect
function nil 0 fixed
function tax 1 fixed
"""


class Case(unittest.TestCase):
    def refuse(self, call, *texts):
        for text in texts:
            with self.subTest(text):
                self.assertEqual(("NoText",), error_of(lambda: call(text)))


def spoilt(text):
    """Return texts that differ from a text of several lines a little."""
    lines = text.splitlines()
    found = [text[:-1], text + "\n", "\n" + text, text + " ", " " + text, text.replace("\n", "\r\n"),
             text.replace("\n", "\r"),
             text.replace("\n", "\u2028"), text.replace("\n", "\n\n", 1), text.upper(), text.replace(" ", "\t"),
             text.replace(" ", "  ", 1), text.replace("\n", " \n", 1), text + "\0", text.replace(" ", "\u00a0"),
             text.replace("\n", "\x0b"), text.replace("\n", "\x1e")]
    for at, line in enumerate(lines):
        others = lines[:at] + lines[at + 1:]
        found.append("".join(f"{other}\n" for other in [*others[:at], line + " ", *others[at:]]))
        found.append("".join(f"{other}\n" for other in [*others[:at], " " + line, *others[at:]]))
        found.append("".join(f"{other}\n" for other in [*others[:at], line.replace(" ", "  ", 1) + " ", *others[at:]]))
        found.append("".join(f"{other}\n" for other in [*others[:at], line, "", *others[at:]]))
    return found


class Terms(Case):
    def check(self, term, text):
        self.assertEqual(text, show_term(term))
        found = read_term(text)
        self.assertEqual((term, type(term)), (found, type(found)))

    def test_terms(self):
        for term, text in [(0, "0"), (7, "7"), (-7, "-7"), (10, "10"), (-10, "-10"), ("x", "x"), ("abcdefgh",
                                                                                                  "abcdefgh"),
                           (("s", "item"), "s.item"), (("a", "b"), "a.b"), (BIG, "9" * 40), (-BIG, "-" + "9" * 40)]:
            self.check(term, text)
        for word in WORDS:
            self.check(word, word)
            self.check((word, word), f"{word}.{word}")

    def test_integers_written_otherwise(self):
        self.refuse(read_term, "-0", "+1", "01", "-01", "00", "1 ", " 1", "1\n", "1.0", "1e3", "1_000", "--1", "-",
                    "+", "0x1",
                    "\u0661", "\uff11", "\u00b2", "1" * 41, "-" + "1" * 41, "9" * 5000, "0" * 41, "1-", "1a", "- 1")

    def test_names_written_otherwise(self):
        self.refuse(read_term, "", "A", "aB", "abcdefghi", "a b", "a_b", "a1", "\u00e4", "a\n", "a.", ".a", ".",
                    "a..b", "a.b.c",
                    "a.1", "1.a", "a .b", "a. b", "a.B", "s.abcdefghi", "a.b ", "a,b", "\u0430", "a" * 10000)

    def test_other_values(self):
        texts = ["a", "abcdefgh", "fixed"]
        for call in (read_term, read_item, read_schema, lambda text: read_plan(LANDS, text)):
            self.refuse(call, *[thing for thing in of_all_sorts() if not isinstance(thing, str)])
            self.refuse(call, ["a"], ("a",), b"a", 1, ["use"], ("use",), b"use")
        for thing in of_all_sorts():
            if isinstance(thing, str) and thing not in texts:
                self.refuse(read_term, thing)
        self.assertEqual(texts, [read_term(text) for text in texts])


class Items(Case):
    def check(self, item, text):
        self.assertEqual(text, show_item(item))
        self.assertEqual(item, read_item(text))

    def test_all_forms(self):
        self.check(("each", "s", "sale"), "each s sale")
        self.check(("call", "done", "log", (("i", "net"),)), "call done log i.net")
        self.check(("same", ("s", "item"), ("i", "id")), "same s.item i.id")
        self.check(("unlike", "x", 0), "unlike x 0")
        self.check(("use",), "use")
        self.check(("same", -1, BIG), "same -1 " + "9" * 40)

    def test_calls_of_no_terms_and_of_three(self):
        self.check(("call", "x", "f", ()), "call x f")
        self.check(("call", "x", "f", (1, "y", ("a", "b"))), "call x f 1 y a.b")
        self.refuse(read_item, "call x f 1 2 3 4", "call x", "call", "call x f ", "call x 1", "call 1 f", "call x.y f")

    def test_words_as_names(self):
        for word in WORDS:
            self.check(("each", word, word), f"each {word} {word}")
            self.check(("call", word, word, (word, (word, word))), f"call {word} {word} {word} {word}.{word}")
            self.check(("unlike", word, (word, word)), f"unlike {word} {word}.{word}")

    def test_what_is_none(self):
        self.refuse(read_item, "", " ", "each", "each s", "each s sale x", "each s.a sale", "each 1 sale", "each s 1",
                    "Each s sale",
                    "each  s sale", " each s sale", "each s sale ", "each s sale\n", "each\ts sale", "same 1",
                    "same 1 2 3", "same",
                    "unlike 1", "unlike x 01", "unlike x -0", "unlike x +1", "unlike x " + "1" * 41, "use use", "use ",
                    "Use",
                    "kept use", "kept each s sale", "show x", "mark s", "x", "1", "s.item", "equal 1 2", "use\n",
                    "same 1 \u0661",
                    "call x f " + "9" * 5000, "each s \u00e9", "same a.b.c 1", "call x f 1  2", "take 1")


class Plans(Case):
    def check(self, plan, text):
        self.assertEqual(text, show_plan(plan))
        self.assertEqual(plan, read_plan(plan.schema, text))

    def test_all_sorts_of_lines(self):
        self.check(FULL, FULL_TEXT)
        self.assertIsInstance(read_plan(LANDS, FULL_TEXT), Plan)

    def test_without_items_shown_terms_and_marks(self):
        self.check(planned(), "")
        self.check(planned(W), "each w ware\n")
        self.check(planned(shown=[1, -1]), "show 1 -1\n")
        self.check(planned(W, marks=["w"]), "each w ware\nmark w\n")

    def test_kept_items(self):
        self.check(planned(("use",), kept=[W]), "kept each w ware\nuse\n")
        self.check(planned(T, ("use",), kept=[W], shown=[("w", "cost")]),
                   "kept each w ware\neach t town\nuse\nshow w.cost\n")

    def test_words_as_names(self):
        schema = Schema({word: [word] for word in WORDS[:6]}, {word: (1, "stable") for word in WORDS[2:]})
        items = [("each", "kept", "use"), ("call", "use", "show", (("kept", "use"),)), ("call", "show", "mark", ("use",
                                                                                                                 )),
                 ("each", "mark", "show"), ("call", "each", "same", ("show",)), ("same", "use", "each")]
        plan = Plan(schema, items, ["use", "show", ("mark", "show"), "each"], marks=["mark", "kept"])
        self.check(plan,
                   "each kept use\ncall use show kept.use\ncall show mark use\neach mark show\ncall each same show\n"
                         "same use each\nshow use show mark.show each\nmark kept mark\n")

    def test_spoilt_texts(self):
        self.refuse(lambda text: read_plan(LANDS, text), *spoilt(FULL_TEXT))

    def test_lines_in_another_order_and_twice(self):
        read = lambda text: read_plan(LANDS, text)
        lines = FULL_TEXT.splitlines(keepends=True)
        for at in (1, 7, 8):
            self.refuse(read, "".join([*lines[:at], lines[at + 1], lines[at], *lines[at + 2:]]))
        for at in range(len(lines)):
            # A comparison may stand twice.
            if lines[at].split(" ")[0] not in ("same", "unlike"):
                self.refuse(read, "".join([*lines[:at + 1], lines[at], *lines[at + 1:]]))
        self.refuse(read, "use\nkept each w ware\n", "mark w\neach w ware\n", "each w ware\nshow 1\nshow 1\n",
                    "show 1\nshow 2\n",
                    "each w ware\nmark w\nshow 1\n", "each w ware\nshow 1\nsame 1 1\n",
                    "each w ware\nmark w\nsame 1 1\n")

    def test_marks_that_do_not_ascend_and_lines_that_stand_out(self):
        text = "each w ware\neach t town\n"
        self.refuse(lambda told: read_plan(LANDS, told), text + "mark w t\n", text + "mark t t\n", text + "mark\n",
                    text + "show\n", text + "mark \n", text + "show \n", text + "mark t\nmark w\n", text + "kept\n",
                    "\n",
                    "show\n", "kept \nuse\n", "kept\nuse\n", text + "mark t w x\n", text + "mark 1\n")

    def test_plans_that_the_schema_refuses(self):
        self.refuse(lambda text: read_plan(LANDS, text), "each w none\n", "same w.cost 1\n", "call x none\n",
                    "call x ping 1\n",
                    "each w ware\neach w ware\n", "use\n", "kept each w ware\n", "kept each w ware\nuse\nuse\n",
                    "kept use\nuse\n", "show x\n", "show w.cost\n", "mark w\n", "call x now x\n",
                    "each w ware\nsame w.none 1\n")
        self.assertEqual(planned(W), read_plan(LANDS, "each w ware\n"))
        self.refuse(lambda text: read_plan(CHAIN, text), "each w ware\n")

    def test_integers_of_forty_digits_and_of_more(self):
        self.check(planned(("same", BIG, -BIG)), f"same {'9' * 40} -{'9' * 40}\n")
        self.refuse(lambda text: read_plan(LANDS, text), f"same {'9' * 41} 1\n", f"show {'9' * 5000}\n", "same 01 1\n",
                    "show -0\n", "show +1\n", "show \u0661\n", "show 1.0\n")

    def test_ten_steps(self):
        items = [("each", loop, "ware") for loop in "abcd"] + [("call", name, "add", (("a", "net"),
                                                                                      BIG)) for name in "efg"]
        plan = planned(*items, *[("same", "e", ("d", "all"))] * 3, shown=["e", "f", "g", -BIG], marks=list("abcd"))
        self.check(plan, show_plan(plan))
        self.assertEqual(12, show_plan(plan).count("\n"))

    def test_by_chance(self):
        chance = random.Random(104)
        for _ in range(150):
            plan = plain_plan(chance)
            text = show_plan(plan)
            self.assertEqual(plan, read_plan(plan.schema, text))
            self.assertEqual(plan.schema, read_schema(show_schema(plan.schema)))
            at = chance.randrange(len(text) + 1)
            changed = text[:at] + chance.choice([" ", "\n", "a", ".", "0", "-", ""]) + text[at + chance.randint(0, 1):]
            try:
                found = read_plan(plan.schema, changed)
            except ValueError:
                continue
            self.assertEqual(changed, show_plan(found))


class Schemas(Case):
    def check(self, schema, text):
        self.assertEqual(text, show_schema(schema))
        self.assertEqual(schema, read_schema(text))

    def test_all_sorts_of_lines(self):
        self.check(SHOP, SHOP_TEXT)
        self.assertIsInstance(read_schema(SHOP_TEXT), Schema)

    def test_few_lines(self):
        self.check(Schema({}, {}), "")
        self.check(Schema({"a": ["b"]}, {}), "table a b\n")
        self.check(Schema({}, {"f": (3, "changing")}), "function f 3 changing\n")

    def test_columns_keep_their_order(self):
        self.check(Schema({"t": ["c", "a", "b"]}, {}), "table t c a b\n")
        self.assertNotEqual(Schema({"t": ["c", "a", "b"]}, {}), read_schema("table t a b c\n"))

    def test_made_columns_of_no_columns_and_of_three(self):
        self.check(CHAIN, show_schema(CHAIN))
        self.assertIn("made goods flat const\nmade goods mid inc low\nmade goods top mix mid id low\n",
                      show_schema(CHAIN))

    def test_the_largest(self):
        tables = {f"table{name}": [f"c{name}{letter}" for letter in "zyxwv"] for name in "abcdef"}
        functions = {f"f{name}": (at % 4, "fixed") for at, name in enumerate("abcdef")}
        references = [(f"table{name}", f"c{name}y", f"table{other}") for name in "abcdef" for other in "abcdef"]
        made = [(f"table{name}", f"c{name}x", "fd", (f"c{name}z", f"c{name}w", f"c{name}z")) for name in "abcdef"]
        schema = Schema(tables, functions, keys={f"table{name}": f"c{name}z" for name in "abcdef"},
                        references=references, made=made)
        self.assertEqual(schema, read_schema(show_schema(schema)))
        self.assertEqual(6 + 6 + 36 + 6 + 6, show_schema(schema).count("\n"))
        self.refuse(read_schema, show_schema(schema) + "function fg 1 fixed\n", "table g a\n" + show_schema(schema),
                    "table t a b c d e f\n")

    def test_spoilt_texts(self):
        self.refuse(read_schema, *spoilt(SHOP_TEXT))

    def test_lines_in_another_order_and_twice(self):
        lines = SHOP_TEXT.splitlines(keepends=True)
        for at in range(len(lines) - 1):
            self.refuse(read_schema, "".join([*lines[:at], lines[at + 1], lines[at], *lines[at + 2:]]))
        for at in range(len(lines)):
            self.refuse(read_schema, "".join([*lines[:at + 1], lines[at], *lines[at + 1:]]))
        self.refuse(read_schema, "table a b\ntable a c\n", "table a b c\nkey a b\nkey a c\n")

    def test_lines_told_otherwise(self):
        for line in ["table", "table a", "table a ", "table a b b", "table 1 b", "table a 1", "Table a b", "key a",
                     "key a b c",
                     "function f 1", "function f 1 fixed fixed", "function f 4 fixed", "function f -1 fixed",
                     "function f 01 fixed",
                     "function f x fixed", "function f 1 free", "function F 1 fixed", "function f \u0661 fixed",
                     "reference a b",
                     "reference a b c d", "made a b", "each s sale", "kind f 1 fixed", "tables a b c", "mark a",
                     "show 1", "", " ", "function f +1 fixed",
                     "function f 1.0 fixed", "function f 1 fixed ", "function f " + "1" * 41 + " fixed",
                     "function f " + "9" * 5000 + " fixed"]:
            self.refuse(read_schema, f"{line}\n", f"table z y\n{line}\n", f"{line}\nfunction z 0 fixed\n")

    def test_schemas_that_schema_refuses(self):
        self.refuse(read_schema, "key a b\n", "table a b\nkey a c\n", "table a b\nreference a b a\n", "made a b f\n",
                    "table a b c\nkey a b\nreference a d a\n", "table a b\nmade a b f b\nfunction f 1 fixed\n",
                    "table a b c\nmade a b f c\nfunction f 1 stable\n",
                    "table a b c\nmade a b f c c c c\nfunction f 1 fixed\n")

    def test_by_chance(self):
        chance = random.Random(1041)
        for _ in range(100):
            schema = rich_schema(chance)
            self.assertEqual(schema, read_schema(show_schema(schema)))


if __name__ == "__main__":
    unittest.main()
