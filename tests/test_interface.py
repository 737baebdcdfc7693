"""The names, arguments and places that the section "The interface" lists."""

import inspect
import unittest

from plancalls import (alike, answers, best, book, closures, contents, counts, desk, fewer, freest, ground,
                       kinds, labels, models, moves, notation, orders, parting, plans, records, runs, schemas, sites,
                       statements, ties)

FUNCTIONS = {
    kinds: {
        "is_integer": "(thing)", "is_name": "(thing)", "is_kind": "(thing)", "freer": "(one, other)",
        "as_free": "(one, other)",
    },
    answers: {"keeps": "(schema, contents, functions)"},
    runs: {"walk": "(plan, contents, functions)", "traced": "(plan, contents, functions)"},
    records: {"record": "(plan, contents, functions)"},
    ties: {
        "tie_of": "(plan, place, term)", "conditions": "(plan, place)", "inner_ties": "(tie)", "loops_in": "(tie)",
    },
    ground: {
        "is_ground": "(plan, place, tie, loops)", "is_ground_by": "(plan, place, tie, rows)",
        "is_settled": "(plan, place, loop, loops)", "written": "(plan, place, tie, loops)",
        "order_keys": "(plan, place)",
    },
    counts: {"settling": "(plan, place)", "bound": "(plan, answer, sizes)"},
    models: {"reaching_case": "(plan, place)", "counter_case": "(plan, place, claim)"},
    sites: {
        "sites": "(plan)", "streams": "(plan)", "loose": "(plan)", "hidden": "(plan)", "is_plain": "(plan)",
        "marks_wanted": "(plan)",
    },
    alike: {
        "compare": "(one, other)", "are_alike": "(one, other)", "pairs": "(one, other)",
        "claims": "(one, other, stream, index)",
    },
    parting: {
        "differences": "(one, other, contents, functions)", "is_case": "(one, other, thing)",
        "parting_case": "(one, other)", "thinned_case": "(one, other, case)",
    },
    freest: {
        "assigned": "(plan, assignment)", "assignments": "(one, other)", "works": "(one, other, assignment)",
        "freest": "(one, other)", "stop": "(one, other, assignment)", "freest_paper": "(one, other)",
        "is_freest_paper": "(one, other, goods, bads)",
    },
    orders: {
        "reordered": "(plan, order)", "is_order": "(plan, thing)", "orders": "(plan)", "how_many": "(plan)",
        "number_of": "(plan, order)", "order_at": "(plan, number)", "next_items": "(plan, begun)",
        "exchanges": "(plan, first, last)",
    },
    moves: {
        "moved": "(plan, move)", "shortened": "(plan)", "judged": "(plan, move)", "alike_moves": "(plan)",
    },
    fewer: {
        "never_more": "(one, other, answer)", "is_put": "(one, other, answer, thing)",
        "is_more_case": "(one, other, answer, contents, functions)", "put": "(one, other, answer)",
        "more_case": "(one, other, answer)", "against": "(one, other)",
    },
    best: {
        "undominated": "(plans)", "bests": "(plan, *, most=200)", "papers": "(plans)", "best": "(plans)",
    },
    statements: {
        "is_history": "(schema, thing)", "is_wrong": "(schema, keepings, thing)",
        "told": "(schema, keepings, history)", "asked": "(schema, keepings, history)", "lasting": "(kind)",
        "wrong": "(schema, keepings)",
    },
    labels: {
        "fits": "(uses, function, kind)", "is_refuting": "(uses, function, kind, thing)", "most_bound": "(uses)",
        "refuting": "(uses, function, kind)", "wrong_labels": "(schema, uses)",
    },
    notation: {
        "show_term": "(term)", "show_item": "(item)", "show_plan": "(plan)", "show_schema": "(schema)",
        "read_term": "(text)", "read_item": "(text)", "read_plan": "(schema, text)", "read_schema": "(text)",
    },
}
CLASSES = {
    schemas: {
        "Schema": {
            "__init__": "(self, tables, functions, *, keys=None, references=(), made=())",
            "tables": "(self)", "functions": "(self)", "references": "(self)", "made": "(self)",
            "columns": "(self, table)", "targets": "(self, table, column)", "key_columns": "(self)",
            "key": "(self, table)", "arguments": "(self, function)", "kind": "(self, function)",
            "made_of": "(self, table, column)", "with_kinds": "(self, changes)", "as_bound": "(self, other)",
            "__eq__": "(self, other)",
        },
    },
    contents: {
        "Contents": {
            "__init__": "(self, schema, rows)", "rows": "(self, table)", "size": "(self, table)",
            "with_rows": "(self, table, rows)", "__eq__": "(self, other)",
        },
    },
    answers: {
        "Answers": {
            "__init__": "(self, told=None, *, rest=0, step=0)", "__call__": "(self, arguments, many)",
            "told": "(self)", "with_answer": "(self, arguments, many, answer)", "always": "(value)",
            "__eq__": "(self, other)",
        },
    },
    plans: {
        "Plan": {
            "__init__": "(self, schema, items, shown=(), *, marks=(), kept=())",
            "main_items": "(self)", "kept": "(self)", "shown": "(self)", "marks": "(self)", "steps": "(self)",
            "ahead": "(self, place)", "open_at": "(self, place)", "loops": "(self)", "answers": "(self)",
            "table_of": "(self, loop)", "function": "(self, answer)", "place_of": "(self, name)",
            "with_items": "(self, items)", "with_shown": "(self, shown)", "with_marks": "(self, marks)",
            "with_schema": "(self, schema)", "__eq__": "(self, other)",
        },
    },
    records: {
        "Record": {
            "rows": "(self)", "calls": "(self, function)", "effects": "(self)", "parts": "(self, other)",
            "counted": "(self, function)", "counted_at": "(self, answer)", "__eq__": "(self, other)",
            "__len__": "(self)",
        },
    },
}
CLASSES[closures] = {
    "Closure": {
        "__init__": "(self, plan, place, *, more=())", "clashes": "(self)", "classes": "(self)",
        "same": "(self, one, other)", "unlike": "(self, one, other)", "had": "(self, table, tie)",
        "entails": "(self, claim)",
    },
}
CLASSES[book] = {
    "Book": {
        "__init__": "(self, schema)", "do": "(self, deed)", "back": "(self)", "again": "(self)", "plan": "(self)",
        "until": "(self, many)", "log": "(self)", "copied": "(self)", "__eq__": "(self, other)", "__len__": "(self)",
    },
}
CLASSES[desk] = {"Desk": {"__init__": "(self, schema)", "execute": "(self, line)"}}
PROPERTIES = [(contents.Contents, "schema"), (answers.Answers, "rest"), (answers.Answers, "step"),
              (plans.Plan, "schema"), (book.Book, "schema")]


class Interface(unittest.TestCase):
    def test_functions(self):
        for module, functions in FUNCTIONS.items():
            for name, signature in functions.items():
                with self.subTest(name):
                    function = getattr(module, name)
                    self.assertEqual(module.__name__, function.__module__)
                    self.assertEqual(signature, str(inspect.signature(function)))

    def test_classes_and_their_own_methods(self):
        for module, classes in CLASSES.items():
            for name, methods in classes.items():
                self.assertEqual(module.__name__, getattr(module, name).__module__)
                for method, signature in methods.items():
                    with self.subTest(name=name, method=method):
                        found = vars(getattr(module, name))[method]
                        self.assertEqual(signature, str(inspect.signature(found)))

    def test_properties(self):
        for found, name in PROPERTIES:
            with self.subTest(found=found, name=name):
                self.assertIsInstance(vars(found)[name], property)

    def test_static_methods_and_generators(self):
        self.assertIsInstance(vars(answers.Answers)["always"], staticmethod)
        self.assertTrue(inspect.isgeneratorfunction(runs.walk))
        self.assertTrue(inspect.isgeneratorfunction(freest.assignments))
        self.assertTrue(inspect.isgeneratorfunction(orders.orders))

    def test_what_stands_behind_the_star_is_passed_by_keyword(self):
        schema = schemas.Schema({}, {})
        for call in [lambda: schemas.Schema({}, {}, None), lambda: answers.Answers({}, 0),
                     lambda: plans.Plan(schema, [], [], []),
                     lambda: closures.Closure(plans.Plan(schema, []), 0, []),
                     lambda: best.bests(plans.Plan(schema, []), 200)]:
            self.assertRaises(TypeError, call)


if __name__ == "__main__":
    unittest.main()
