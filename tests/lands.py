"""Schemas and plans that the tests of conditions share."""

from plancalls.plans import Plan
from plancalls.schemas import Schema

# Tables with keys: land, town and mayor lead one after another, town also leads to itself; part has two references
# from one column, and one from its key. ware and note have no keys.
TABLES = {"land": ["id", "head"], "town": ["id", "land", "near"], "mayor": ["id", "town"], "part": ["id", "two", "sum"],
          "ware": ["town", "cost", "net", "all"], "note": ["who", "text"]}
KEYS = {"land": "id", "town": "id", "mayor": "id", "part": "id"}
REFERENCES = [("land", "head", "mayor"), ("town", "land", "land"), ("town", "near", "town"), ("mayor", "town", "town"),
              ("part", "id", "town"), ("part", "two", "land"), ("part", "two", "mayor"), ("ware", "town", "town"),
              ("note", "who", "mayor")]
MADE = [("part", "sum", "fix", ("id",)), ("ware", "net", "fix", ("cost",)), ("ware", "all", "add", ("net", "town"))]
FUNCTIONS = {"fix": (1, "fixed"), "add": (2, "fixed"), "now": (1, "stable"), "draw": (1, "changing"),
             "log": (1, "effect"), "ping": (0, "effect")}

LANDS = Schema(TABLES, FUNCTIONS, keys=KEYS, references=REFERENCES, made=MADE)

# Made columns of made columns of a row that has a key, and one of no arguments.
CHAIN = Schema({"goods": ["id", "low", "mid", "top", "flat"], "sale": ["good", "sum"]},
               {"inc": (1, "fixed"), "mix": (3, "fixed"), "const": (0, "fixed"), "log": (1, "effect")},
               keys={"goods": "id"}, references=[("sale", "good", "goods")],
               made=[("goods", "mid", "inc", ("low",)), ("goods", "top", "mix", ("mid", "id", "low")),
                     ("goods", "flat", "const", ())])

BIG = 10 ** 40 - 1


def planned(*items, shown=(), marks=(), kept=(), schema=LANDS):
    """Return a Plan of these items over LANDS."""
    return Plan(schema, list(items), shown, marks=marks, kept=kept)


def number(value):
    """Return the tie of an integer."""
    return ("int", value)


def cell(loop, column):
    """Return the tie of a column of a loop over a table without a key, or of a key."""
    return ("cell", loop, column)


def look(table, column, tie):
    """Return the tie of a column of the row of a key."""
    return ("look", table, column, tie)


def ask(function, *ties):
    """Return the tie of the answer of a fixed or a stable function."""
    return ("ask", function, ties)


def told(stream, index):
    """Return the tie of the answer of a site."""
    return ("told", stream, index)


def row(table, tie):
    """Return the order key of a loop over a table with a key."""
    return ("row", table, tie)
