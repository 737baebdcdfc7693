"""Histories, stores that keep answers, and keepings that are too long [100] [12]."""

import itertools
import random
import unittest

from plancalls.schemas import Schema
from plancalls.statements import asked, is_history, is_wrong, lasting, told, wrong
from things import Equal, of_all_sorts

SCHEMA = Schema({}, {"fix": (1, "fixed"), "sta": (1, "stable"), "cha": (0, "changing"), "eff": (2, "effect"),
                     "nil": (0, "fixed"), "tri": (3, "stable")})
FIX, STA, CHA = (0, "fix", (1,), 5), (0, "sta", (1,), 5), (0, "cha", (), 5)
KEEPINGS = ["never", "statement", "ever"]
BIG = 10 ** 40 - 1


class Store:
    """A store written plainly: it looks through all that was asked before."""

    def __init__(self, keepings):
        self.keepings, self.asks = keepings, []

    def answer(self, ask):
        """Return what is answered to an ask, and whether the function itself was called."""
        statement, name, arguments, value = ask
        keeping = self.keepings[name] if name in self.keepings else "never"
        earlier = [answered for number, other, others, answered in self.asks if (other, others) == (name, arguments)
                   and (keeping == "ever" or (keeping == "statement" and number == statement))]
        found = earlier[-1] if earlier else value
        self.asks.append((statement, name, arguments, found))
        return found, not earlier


def plainly(keepings, history):
    """Return what a Store answers, and the indexes at which it called the functions."""
    store = Store(keepings)
    found = [store.answer(ask) for ask in history]
    return [value for value, _ in found], [at for at, (_, called) in enumerate(found) if called]


def is_right(schema, history):
    """Return whether a history is right, told by each two of its asks."""
    for first, second in itertools.combinations(history, 2):
        if first[1:3] == second[1:3] and first[3] != second[3]:
            kind = schema.kind(first[1])
            if kind == "fixed" or (kind == "stable" and first[0] == second[0]):
                return False
    return True


def some_history(chance, schema, most=40):
    """Return a history by chance, right or not."""
    found, statement = [], 0
    for _ in range(chance.randint(1, most)):
        statement += chance.choice([0, 0, 0, 1, 3])
        name = chance.choice(schema.functions())
        arguments = tuple(chance.randint(0, 1) for _ in range(schema.arguments(name)))
        found.append((statement, name, arguments, chance.randint(0, 1)))
    return found


def right_history(chance, schema):
    """Return a right history by chance."""
    found = []
    for ask in some_history(chance, schema):
        if is_right(schema, [*found, ask]):
            found.append(ask)
    return found


class IsHistory(unittest.TestCase):
    def check(self, expected, thing):
        self.assertIs(expected, is_history(SCHEMA, thing))

    def test_right_ones(self):
        self.check(True, [FIX])
        self.check(True, [FIX, FIX, (7, "fix", (1,), 5), (7, "fix", (2,), 6)])
        self.check(True, [STA, STA, (1, "sta", (1,), 6), (1, "sta", (1,), 6)])
        self.check(True, [CHA, (0, "cha", (), 6), (0, "eff", (1, 2), 3), (0, "eff", (1, 2), 4)])
        self.check(True, [(0, "nil", (), -BIG), (10 ** 40 - 2, "tri", (0, -1, BIG), BIG)])

    def test_other_values_for_one_question(self):
        self.check(False, [FIX, (0, "fix", (1,), 6)])
        self.check(False, [FIX, (1, "fix", (1,), 6)])
        self.check(False, [STA, (0, "sta", (2,), 6), (0, "sta", (1,), 6)])
        self.check(False, [STA, (1, "sta", (1,), 6), (1, "sta", (1,), 5)])
        self.check(False, [(0, "nil", (), 1), (3, "nil", (), 2)])
        # The values of one function say nothing of another one.
        self.check(True, [FIX, (0, "sta", (1,), 6)])

    def test_no_ask_forty_and_forty_one(self):
        self.check(False, [])
        self.check(True, [CHA] * 40)
        self.check(False, [CHA] * 41)

    def test_statements(self):
        self.check(True, [(3, "cha", (), 1), (3, "cha", (), 2), (9, "cha", (), 3)])
        self.check(False, [(1, "cha", (), 1), (0, "cha", (), 2)])
        self.check(False, [(0, "cha", (), 1), (2, "cha", (), 1), (1, "cha", (), 2)])
        self.check(False, [(-1, "cha", (), 1)])
        self.check(False, [(-BIG, "cha", (), 1)])

    def test_other_values(self):
        for thing in of_all_sorts():
            self.check(False, thing)
            self.check(False, [thing])
            self.check(False, [FIX, thing])
            self.check(False, [(0, thing, (1,), 5)])
            if thing != (1,):
                self.check(False, [(0, "fix", thing, 5)])
            if not isinstance(thing, int) or isinstance(thing, bool):
                for ask in [(thing, "fix", (1,), 5), (0, "fix", (thing,), 5), (0, "fix", (1,), thing)]:
                    self.check(False, [ask])

    def test_asks_told_otherwise(self):
        for ask in [(0, "fix", (1,)), (0, "fix", (1,), 5, 5), [0, "fix", (1,), 5], (0, "fix", [1], 5), (0, "fix", 1, 5),
                    (True, "fix", (1,), 5), (0, "fix", (True,), 5), (0, "fix", (1,), False), (0, "none", (1,), 5),
                    (0, "fix", (), 5), (0, "fix", (1, 1), 5), (0, "cha", (1,), 5), (0, "", (1,), 5),
                    (0, "tri", (1, 2), 5),
                    (0, Equal(), (1,), 5), (0, "fix", (Equal(),), 5), (0, ["fix"], (1,), 5), ("0", "fix", (1,), 5), ()]:
            self.check(False, [ask])
            self.check(False, [FIX, ask])
        self.check(False, (FIX,))
        self.check(False, {0: FIX})

    def test_great_values(self):
        self.check(False, [[[[[[[[[[[[]]]]]]]]]]]])
        self.check(False, list(range(10000)))
        self.check(False, [(0, "fix", tuple(range(9999)), 5)])
        self.check(False, "9" * 5000)
        self.check(False, [(0, "9" * 5000, (1,), 5)])


class Told(unittest.TestCase):
    def check(self, keepings, history, values, called):
        self.assertEqual(values, told(SCHEMA, keepings, history))
        self.assertEqual(called, asked(SCHEMA, keepings, history))

    HISTORY = [(0, "cha", (), 1), (0, "cha", (), 2), (1, "cha", (), 3), (1, "cha", (), 4), (3, "cha", (), 5)]

    def test_never(self):
        self.check({}, self.HISTORY, [1, 2, 3, 4, 5], [0, 1, 2, 3, 4])
        self.check({"cha": "never"}, self.HISTORY, [1, 2, 3, 4, 5], [0, 1, 2, 3, 4])

    def test_within_a_statement_and_for_ever(self):
        self.check({"cha": "statement"}, self.HISTORY, [1, 1, 3, 3, 5], [0, 2, 4])
        self.check({"cha": "ever"}, self.HISTORY, [1, 1, 1, 1, 1], [0])

    def test_equal_arguments_alone(self):
        history = [(0, "fix", (1,), 5), (0, "fix", (2,), 6), (0, "sta", (1,), 7), (0, "fix", (1,), 5),
                   (1, "fix", (2,), 6)]
        self.check({"fix": "ever"}, history, [5, 6, 7, 5, 6], [0, 1, 2])
        self.check({"fix": "statement", "sta": "ever"}, history, [5, 6, 7, 5, 6], [0, 1, 2, 4])

    def test_functions_that_are_never_asked(self):
        self.check({"eff": "ever", "fix": "never"}, [CHA, CHA], [5, 5], [0, 1])

    def test_answers_otherwise_than_what_was_kept(self):
        # The kept answer is told although the function would answer otherwise by now.
        history = [(0, "fix", (1,), 5), (1, "fix", (1,), 6), (2, "fix", (1,), 7), (2, "fix", (1,), 8)]
        self.check({"fix": "ever"}, history, [5, 5, 5, 5], [0])
        self.check({"fix": "statement"}, history, [5, 6, 7, 7], [0, 1, 2])

    def test_one_ask_and_forty(self):
        self.check({"cha": "ever"}, [CHA], [5], [0])
        history = [(at // 4, "eff", (at % 2, BIG), at) for at in range(40)]
        self.check({"eff": "ever"}, history, [0, 1] * 20, [0, 1])
        values = [4 * (at // 4) + at % 2 for at in range(40)]
        self.check({"eff": "statement"}, history, values, [at for at in range(40) if at % 4 < 2])

    def test_each_list_is_new_and_nothing_changes(self):
        keepings, history = {"cha": "ever"}, list(self.HISTORY)
        told(SCHEMA, keepings, history).clear()
        asked(SCHEMA, keepings, history).clear()
        self.assertEqual(({"cha": "ever"}, self.HISTORY), (keepings, history))
        self.check(keepings, history, [1, 1, 1, 1, 1], [0])

    def test_a_store_written_plainly(self):
        chance = random.Random(100)
        for _ in range(400):
            history = some_history(chance, SCHEMA)
            keepings = {name: chance.choice(KEEPINGS) for name in SCHEMA.functions() if chance.random() < 0.8}
            values, called = plainly(keepings, history)
            self.check(keepings, history, values, called)


class Wrong(unittest.TestCase):
    def test_lasting(self):
        self.assertEqual(["ever", "statement", "never", "never"],
                         [lasting(kind) for kind in ("fixed", "stable", "changing", "effect")])

    def test_kept_no_longer_than_right(self):
        self.assertIsNone(wrong(SCHEMA, {}))
        right = {name: lasting(SCHEMA.kind(name)) for name in SCHEMA.functions()}
        self.assertIsNone(wrong(SCHEMA, right))
        self.assertIsNone(wrong(SCHEMA, {"fix": "statement", "sta": "never", "nil": "ever"}))

    def test_the_least_function_and_history(self):
        self.assertEqual(("cha", [(0, "cha", (), 0), (0, "cha", (), 1)]),
                         wrong(SCHEMA, {"sta": "ever", "cha": "statement", "eff": "ever"}))
        self.assertEqual(("cha", [(0, "cha", (), 0), (0, "cha", (), 1)]), wrong(SCHEMA, {"cha": "ever", "fix": "ever"}))
        self.assertEqual(("eff", [(0, "eff", (0, 0), 0), (0, "eff", (0, 0), 1)]), wrong(SCHEMA, {"eff": "statement"}))
        self.assertEqual(("sta", [(0, "sta", (0,), 0), (1, "sta", (0,), 1)]),
                         wrong(SCHEMA, {"tri": "ever", "sta": "ever"}))
        self.assertEqual(("tri", [(0, "tri", (0, 0, 0), 0), (1, "tri", (0, 0, 0), 1)]),
                         wrong(SCHEMA, {"tri": "ever", "sta": "statement"}))

    def test_each_list_is_new(self):
        wrong(SCHEMA, {"cha": "ever"})[1].clear()
        self.assertEqual(2, len(wrong(SCHEMA, {"cha": "ever"})[1]))

    def test_all_histories_of_one_and_of_two_asks(self):
        for kinds in itertools.product(("fixed", "stable", "changing", "effect"), repeat=2):
            for many in ((0, 1), (1, 0), (0, 2)):
                schema = Schema({}, {"f": (many[0], kinds[0]), "g": (many[1], kinds[1])})
                asks = [(statement, name, arguments, value) for statement in (0, 1) for name in schema.functions()
                        for arguments in itertools.product((0, 1), repeat=schema.arguments(name)) for value in (0, 1)]
                histories = [[ask] for ask in asks] + [list(pair) for pair in itertools.product(asks, repeat=2)]
                histories = [history for history in histories if is_history(schema, history)]
                self.assertEqual([history for history in histories if is_right(schema, history)], histories)
                for keeping in itertools.product(KEEPINGS, repeat=2):
                    self.check(schema, dict(zip("fg", keeping)), histories)

    def check(self, schema, keepings, histories):
        shown = [history for history in histories if plainly(keepings, history)[0][-1] != history[-1][3]]
        expected = None
        if shown:
            name = min(history[-1][1] for history in shown)
            fewest = min(len(history) for history in shown)
            least = min(history for history in shown if history[-1][1] == name and len(history) == fewest)
            expected = (name, least)
        self.assertEqual(expected, wrong(schema, keepings))
        for history in histories:
            self.assertIs(plainly(keepings, history)[0] != [ask[3] for ask in history],
                          is_wrong(schema, keepings, history))

    def test_right_keepings_are_right_for_all_histories(self):
        chance = random.Random(12)
        right = {name: lasting(SCHEMA.kind(name)) for name in SCHEMA.functions()}
        for _ in range(300):
            history = right_history(chance, SCHEMA)
            keepings = {name: chance.choice(KEEPINGS[:KEEPINGS.index(right[name]) + 1]) for name in right}
            self.assertEqual([ask[3] for ask in history], told(SCHEMA, keepings, history))
            self.assertIs(False, is_wrong(SCHEMA, keepings, history))


class IsWrong(unittest.TestCase):
    def test_histories(self):
        history = [(0, "cha", (), 0), (0, "cha", (), 1), (0, "cha", (), 0)]
        self.assertIs(True, is_wrong(SCHEMA, {"cha": "statement"}, history))
        self.assertIs(True, is_wrong(SCHEMA, {"cha": "ever"}, [(4, "cha", (), 7), (5, "cha", (), 9), (5, *FIX[1:])]))
        self.assertIs(False, is_wrong(SCHEMA, {"cha": "never"}, history))
        self.assertIs(False, is_wrong(SCHEMA, {}, history))
        self.assertIs(False, is_wrong(SCHEMA, {"cha": "ever"}, [CHA, CHA]))

    def test_histories_that_are_not_right(self):
        keepings = {"fix": "ever", "cha": "ever"}
        self.assertIs(False, is_wrong(SCHEMA, keepings, [FIX, (0, "fix", (1,), 6)]))
        self.assertIs(False, is_wrong(SCHEMA, keepings, [FIX, (0, "fix", (1,), 6), CHA, (0, "cha", (), 6)]))
        self.assertIs(False, is_wrong(SCHEMA, keepings, [(1, "cha", (), 5), (0, "cha", (), 6)]))

    def test_other_values(self):
        for thing in of_all_sorts():
            self.assertIs(False, is_wrong(SCHEMA, {"cha": "ever"}, thing))
            self.assertIs(False, is_wrong(SCHEMA, {"cha": "ever"}, [CHA, thing]))


if __name__ == "__main__":
    unittest.main()
