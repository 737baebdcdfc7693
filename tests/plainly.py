"""Runs told once more, as plainly as can be, and many plans, contents and functions to compare them on."""

import random

from plancalls.answers import Answers
from plancalls.contents import Contents
from plancalls.plans import Plan
from plancalls.schemas import Schema


class PlainRun:
    """A run from its begin to its end: its rows, and its calls with what many was and the numbers."""

    def __init__(self, plan, contents, functions):
        self.plan, self.contents, self.functions = plan, contents, functions
        self.rows, self.calls, self.kept, self.many = [], [], [], {}
        self.effects = [name for name in plan.schema.functions() if plan.schema.kind(name) == "effect"]
        self.run(plan.kept(), {}, {}, self.keep)
        self.run(plan.main_items(), {}, {}, self.give_out)

    def run(self, items, numbers, answers, at_end):
        """Run items, with the numbers of the rows of the open loops and the answers that are known."""
        if not items:
            at_end(numbers, answers)
            return
        item, behind = items[0], items[1:]
        if item[0] == "each":
            for number in range(self.contents.size(item[2])):
                self.run(behind, {**numbers, item[1]: number}, answers, at_end)
        elif item[0] == "use":
            for kept_numbers, kept_answers in self.kept:
                self.run(behind, {**numbers, **kept_numbers}, {**answers, **kept_answers}, at_end)
        elif item[0] == "call":
            self.run(behind, numbers, {**answers, item[1]: self.call(item, numbers, answers)}, at_end)
        else:
            first, second = [self.value(term, numbers, answers) for term in item[1:]]
            if (first == second) is (item[0] == "same"):
                self.run(behind, numbers, answers, at_end)

    def keep(self, numbers, answers):
        self.kept.append((numbers, answers))

    def give_out(self, numbers, answers):
        values = tuple(self.value(term, numbers, answers) for term in self.plan.shown())
        self.rows.append((self.marked(numbers), values))

    def call(self, item, numbers, answers):
        _, name, function, terms = item
        kind = self.plan.schema.kind(function)
        many = 0
        if kind == "changing":
            many = self.many.get(function, 0)
        if kind == "effect":
            many = sum([self.many.get(other, 0) for other in self.effects])
        self.many[function] = self.many.get(function, 0) + 1
        arguments = tuple(self.value(term, numbers, answers) for term in terms)
        value = self.functions[function](arguments, many)
        self.calls.append((name, function, arguments, many, value, self.marked(numbers)))
        return value

    def marked(self, numbers):
        return tuple(sorted((loop, numbers[loop]) for loop in numbers if loop in self.plan.marks()))

    def value(self, term, numbers, answers):
        if isinstance(term, tuple):
            table = self.plan.table_of(term[0])
            column = self.plan.schema.columns(table).index(term[1])
            return self.contents.rows(table)[numbers[term[0]]][column]
        return answers[term] if isinstance(term, str) else term


def small_schema():
    """Return a Schema with functions of all kinds, two of them changing and two effects."""
    functions = {"fix": (1, "fixed"), "sta": (0, "stable"), "cha": (1, "changing"), "chb": (0, "changing"),
                 "efa": (2, "effect"), "efb": (0, "effect")}
    return Schema({"a": ["x", "y"], "b": ["z"], "none": ["x"]}, functions)


def some_terms(chance, schema, ahead, many):
    """Return as many terms behind these items."""
    terms = [0, 1]
    for item in ahead:
        if item[0] == "call":
            terms.append(item[1])
        if item[0] == "each":
            terms += [(item[1], column) for column in schema.columns(item[2])]
    return tuple(chance.choice(terms[-4:]) for _ in range(many))


def some_items(chance, schema, names, words, kept):
    """Return the items of these words, with names of their own; "use" puts kept items ahead of what is behind."""
    items, ahead = [], []
    for word, name in zip(words, names):
        if word == "each":
            item = ("each", name, chance.choice(["a"] * 5 + ["b"] * 5 + ["none"]))
        elif word == "call":
            function = chance.choice(schema.functions())
            item = ("call", name, function, some_terms(chance, schema, ahead, schema.arguments(function)))
        elif word == "use":
            item = ("use",)
        else:
            item = (word, *some_terms(chance, schema, ahead, 2))
        items.append(item)
        ahead += kept if word == "use" else [item]
    return items, ahead


def some_plan(chance, schema):
    """Return a plan made by chance."""
    words = ["each"] * 5 + ["call"] * 5 + ["same", "unlike"]
    names = chance.sample(["each", "use", "a", "b", "fix", "same", "x", "y", "z", "tax", "call", "none"], 10)
    kept, ahead = some_items(chance, schema, names[:3], chance.choices(words, k=chance.choice([0, 0, 1, 2, 3])), [])
    chosen = chance.choices(words, k=chance.randint(1, 6))
    if kept:
        chosen.insert(chance.randint(0, len(chosen)), "use")
    items, ahead = some_items(chance, schema, names[3:], chosen, kept)
    loops = [item[1] for item in ahead if item[0] == "each"]
    marks = [loop for loop in loops if chance.random() < 0.6]
    return Plan(schema, items, some_terms(chance, schema, ahead, chance.randint(0, 3)), marks=marks, kept=kept)


def some_contents(chance, schema):
    """Return contents of few rows and few values, some rows equal."""
    rows = {"a": [(chance.randint(0, 1), chance.randint(0, 1)) for _ in range(chance.choice([0, 1, 2, 2, 3]))],
            "b": [(chance.randint(0, 1),) for _ in range(chance.choice([0, 1, 2, 2, 3]))]}
    return Contents(schema, rows)


def some_functions(chance, schema):
    """Return Answers of few values for all functions, which hang on many, too."""
    return {name: Answers(rest=chance.randint(0, 1), step=chance.randint(0, 1)) for name in schema.functions()}


def cases(many):
    """Return some plans, with contents and functions to run them on: the same ones each time."""
    chance = random.Random(20)
    schema = small_schema()
    return [(some_plan(chance, schema), some_contents(chance, schema), some_functions(chance, schema))
            for _ in range(many)]
