"""Pairs of plans made by chance: each with another one that differs a little, or not at all."""

from plancalls.errors import PlanError
from plancalls.plans import Plan
from plancalls.schemas import Schema
from plancalls.sites import marks_wanted
from richly import rich_items, rich_plan, rich_schema, rich_terms


def busy_schema(chance):
    """Return a Schema in which most functions are changing or effects."""
    schema = rich_schema(chance)
    functions = {"fix": (1, "fixed"), "sta": (1, "stable"), "cha": (1, "changing"), "chb": (0, "changing"),
                 "efa": (1, "effect"), "efb": (0, "effect")}
    tables = {table: schema.columns(table) for table in schema.tables()}
    made = [(*item[:2], "fix", item[3][:1]) for item in schema.made() if item[3]]
    return Schema(tables, functions, keys=schema.key_columns(), references=schema.references(), made=made)


def busy_plan(chance, schema):
    """Return a plan with many calls."""
    names = chance.sample(["d", "e", "f", "g", "h", "p", "q", "r", "s", "t"], 10)
    words = ["each"] + chance.choices(["each"] * 3 + ["same"] * 4 + ["unlike"] + ["call"] * 7, k=chance.randint(3, 8))
    while words.count("each") > 3:
        words.remove("each")
    items, ahead = rich_items(chance, schema, names, words, [])
    return Plan(schema, items, rich_terms(chance, schema, ahead, chance.randint(0, 2)))


def plain_plan(chance):
    """Return a plain plan over a schema of its own."""
    if chance.random() < 0.5:
        schema = busy_schema(chance)
        plan = busy_plan(chance, schema)
    else:
        schema = rich_schema(chance)
        plan = rich_plan(chance, schema)
    kept = [item for item in plan.kept() if item[0] != "call"]
    try:
        plan = Plan(schema, plan.main_items(), plan.shown(), kept=kept)
    except PlanError:
        return plain_plan(chance)
    return plan.with_marks(marks_wanted(plan) if chance.random() < 0.7 else plan.loops())


def changed_plan(chance, plan):
    """Return a plan of which a few things are otherwise, None if there is none."""
    items, shown = plan.main_items(), plan.shown()
    for _ in range(chance.choice([1, 1, 1, 2, 3])):
        way, at = chance.random(), chance.randrange(max(len(items), 1))
        if way < 0.45 and at + 1 < len(items):
            items[at:at + 2] = items[at:at + 2][::-1]
        elif way < 0.6 and items:
            del items[at]
        elif way < 0.7 and items:
            items.insert(chance.randrange(len(items)), items.pop(at))
        elif way < 0.85 and items and items[at][0] in ("same", "unlike"):
            items[at] = (items[at][0], items[at][2], items[at][1])
        elif way < 0.85 and items and items[at][0] == "call":
            items[at] = (*items[at][:3], rich_terms(chance, plan.schema, items[:at], len(items[at][3])))
        else:
            shown = rich_terms(chance, plan.schema, plan.kept() + items, len(shown))
    try:
        return Plan(plan.schema, items, shown, marks=plan.marks(), kept=plan.kept())
    except PlanError:
        return None
