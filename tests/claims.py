"""Claims made by chance, and what cases must be."""

from plancalls.answers import Answers, keeps
from plancalls.contents import Contents
from reached import Reached


def some_ties(chance, ties, place):
    """Return ties with loops that are open at a place: of terms, of conditions, and further ones around these."""
    plan, schema = ties.plan, ties.schema
    found = [("int", 0), ("int", 1)]
    for loop in plan.open_at(place):
        table = plan.table_of(loop)
        found += [ties.column(table, loop, column) for column in schema.columns(table)]
    found += [ties.answers[item[1]] for item in plan.ahead(place) if item[0] == "call"]
    for condition in ties.conditions(place):
        found += condition[1:]
    bound = [name for name in schema.functions() if schema.kind(name) in ("fixed", "stable")]
    for _ in range(6):
        table = chance.choice(sorted(schema.key_columns()) or [None])
        if table is not None and chance.random() < 0.6:
            columns = [column for column in schema.columns(table) if column != schema.key(table)]
            found += [("look", table, column, chance.choice(found)) for column in columns[:1]]
        elif bound:
            name = chance.choice(bound)
            found.append(("ask", name, tuple(chance.choice(found) for _ in range(schema.arguments(name)))))
    return found


def some_claim(chance, schema, pool):
    """Return a claim about some of these ties."""
    word = chance.choice(["same", "same", "unlike", "had"] if schema.key_columns() else ["same", "unlike"])
    if word == "had":
        return (word, chance.choice(sorted(schema.key_columns())), chance.choice(pool))
    return (word, chance.choice(pool), chance.choice(pool))


def answers_of_sites(ties):
    """Return the dict from tuples (stream, index) of live sites to the names of their answers."""
    steps = ties.plan.steps()
    return {site[:2]: steps[site[2]][1] for site in ties.sites if site[0] != "."}


def check_case(test, plan, place, found):
    """Check what a case and numbers must be; return the run, and the answers known there."""
    case, numbers = found
    contents, functions = case
    test.assertIs(tuple, type(found))
    test.assertIs(tuple, type(case))
    test.assertIs(Contents, type(contents))
    test.assertTrue(contents.schema == plan.schema)
    test.assertEqual(plan.schema.functions(), sorted(functions))
    test.assertEqual({Answers}, {Answers} | {type(function) for function in functions.values()})
    test.assertIsNone(keeps(plan.schema, contents, functions))
    test.assertEqual(sorted(plan.open_at(place)), sorted(numbers))
    run = Reached(plan, contents, functions)
    times = [answers for reached, answers in run.times[place] if reached == numbers]
    test.assertEqual(1, len(times))
    return run, times[0]


def check_sizes(test, plan, place, classes, contents, times=1):
    """Check that each table has at most so many rows as it may have, so many times."""
    schema = plan.schema
    for table in schema.tables():
        most = 1 + [plan.table_of(loop) for loop in plan.open_at(place)].count(table)
        if schema.key(table) is not None:
            most += len({classes.classes[tie] for tie in classes.classes if classes.has(table, tie)})
        test.assertLessEqual(contents.size(table), most * times)
