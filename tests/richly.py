"""Schemas with keys, references and made columns, plans over them, and contents that keep them, made by chance."""

from plancalls.answers import Answers, keeps
from plancalls.contents import Contents
from plancalls.plans import Plan
from plancalls.schemas import Schema

FUNCTIONS = {"fix": (1, "fixed"), "gix": (2, "fixed"), "one": (0, "fixed"), "sta": (1, "stable"),
             "cha": (1, "changing"), "chb": (0, "changing"), "efa": (1, "effect"), "efb": (0, "effect")}


def rich_schema(chance):
    """Return a Schema of some tables: most with keys, many references, a few made columns."""
    tables = {name: chance.sample(["x", "y", "z"], chance.randint(1, 3)) for name in "abc"[:chance.randint(1, 3)]}
    functions = dict(chance.sample(sorted(FUNCTIONS.items()), 6))
    keys = {name: chance.choice(tables[name]) for name in tables if chance.random() < 0.7}
    made = []
    for table in tables:
        free = [column for column in tables[table] if keys.get(table) != column]
        for column in free:
            fixed = [name for name in functions if functions[name][1] == "fixed"]
            sources = [other for other in tables[table] if other < column or keys.get(table) == other]
            if fixed and chance.random() < 0.3:
                name = chance.choice(fixed)
                if sources or functions[name][0] == 0:
                    chosen = tuple(chance.choice(sources) for _ in range(functions[name][0]))
                    made.append((table, column, name, chosen))
    taken = [item[:2] for item in made]
    places = [(table, column) for table in tables for column in tables[table] if (table, column) not in taken]
    references = [(*place, target) for place in places for target in sorted(keys) if chance.random() < 0.35]
    return Schema(tables, functions, keys=keys, references=references, made=made)


def rich_terms(chance, schema, ahead, many):
    """Return terms behind these items, those of columns more often than integers."""
    terms = [0, 1]
    for item in ahead:
        if item[0] == "call":
            terms += [item[1]] * 2
        if item[0] == "each":
            terms += [(item[1], column) for column in schema.columns(item[2])]
    return tuple(chance.choice(terms) for _ in range(many))


def rich_items(chance, schema, names, words, kept):
    """Return the items of these words, and those that are ahead of what stands behind them."""
    items, ahead = [], []
    for word, name in zip(words, names):
        if word == "each":
            item = ("each", name, chance.choice(schema.tables()))
        elif word == "call":
            function = chance.choice(schema.functions())
            item = ("call", name, function, rich_terms(chance, schema, ahead, schema.arguments(function)))
        elif word == "use":
            item = ("use",)
        else:
            item = (word, *rich_terms(chance, schema, ahead, 2))
        items.append(item)
        ahead += kept if word == "use" else [item]
    return items, ahead


def rich_plan(chance, schema, most=8):
    """Return a plan over a schema: at most three loops, kept items now and then."""
    words = ["each"] * 4 + ["same"] * 5 + ["unlike"] * 2 + ["call"] * 4
    names = chance.sample(["d", "e", "f", "g", "h", "p", "q", "r", "s", "t"], 10)
    many = chance.choice([0, 0, 0, 1, 2, 3])
    chosen = ["each"] + chance.choices(words, k=chance.randint(1, most))
    while chosen.count("each") > 3:
        chosen.remove("each")
    kept, _ = rich_items(chance, schema, names[:many], chosen[:many], [])
    left = chosen[many:]
    if kept:
        left.insert(chance.randint(0, len(left)), "use")
    items, ahead = rich_items(chance, schema, names[many:], left, kept)
    loops = [item[1] for item in ahead if item[0] == "each"]
    marks = [loop for loop in loops if chance.random() < 0.6]
    return Plan(schema, items, rich_terms(chance, schema, ahead, chance.randint(0, 2)), marks=marks, kept=kept)


def rich_functions(chance, schema):
    """Return Answers of few values for all functions."""
    found = {}
    for name in schema.functions():
        told = {}
        if schema.arguments(name) == 1:
            told = {((value,), 0): chance.randint(0, 2) for value in range(3)}
        changing = schema.kind(name) in ("changing", "effect")
        if changing:
            arguments = (0,) * schema.arguments(name)
            told = {(arguments, many): chance.randint(0, 2) for many in range(6)}
        found[name] = Answers(told, rest=chance.randint(0, 2), step=chance.randint(0, 1) if changing else 0)
    return found


def filled_row(schema, table, key, keys, functions, chance):
    """Return a row with this key whose references lead to some of the keys."""
    row = {} if key is None else {schema.key(table): key}
    waiting = [column for column in schema.columns(table) if column not in row]
    while waiting:
        column = waiting.pop(0)
        origin = schema.made_of(table, column)
        if origin is None:
            row[column] = chance.choice(keys) if schema.targets(table, column) else chance.randint(0, 2)
        elif all(source in row for source in origin[1]):
            row[column] = functions[origin[0]](tuple(row[source] for source in origin[1]), 0)
        else:
            waiting.append(column)
    return tuple(row[column] for column in schema.columns(table))


def rich_contents(chance, schema, functions):
    """Return contents that keep the schema: few rows, few values."""
    keys = chance.sample([0, 1, 2], chance.randint(1, 3))
    rows = {}
    for table in schema.tables():
        if schema.key(table) is None:
            many = range(chance.randint(0, 3))
            rows[table] = [filled_row(schema, table, None, keys, functions, chance) for _ in many]
        else:
            rows[table] = [filled_row(schema, table, key, keys, functions, chance) for key in keys]
    contents = Contents(schema, rows)
    for table in schema.tables():
        for number in range(contents.size(table))[::-1]:
            left = contents.rows(table)
            del left[number]
            less = contents.with_rows(table, left)
            if chance.random() < 0.3 and keeps(schema, less, functions) is None:
                contents = less
    return contents
