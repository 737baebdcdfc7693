"""Kinds that fit the uses that were seen, and uses that show that one does not [101]."""

import itertools
import random
import unittest

from plancalls.kinds import KINDS
from plancalls.labels import fits, is_refuting, most_bound, refuting, wrong_labels
from plancalls.schemas import Schema
from things import Equal, of_all_sorts

USES = [(0, "now", (), 5), (0, "tax", (3,), 1), (0, "now", (), 5), (1, "now", (), 6), (1, "tax", (4,), 2),
        (2, "draw", (), 1), (2, "draw", (), 2), (3, "now", (), 5), (3, "tax", (3,), 1), (3, "draw", (), 2)]
SCHEMA = Schema({}, {"tax": (1, "fixed"), "now": (0, "stable"), "draw": (0, "effect"), "none": (2, "fixed")})
BIG = 10 ** 40 - 1


def some_uses(chance):
    """Return uses by chance."""
    found, statement = [], 0
    for _ in range(chance.randint(0, 40)):
        statement += chance.choice([0, 0, 1])
        arguments = tuple(chance.randint(0, 1) for _ in range(chance.randint(0, 3)))
        found.append((statement, chance.choice("fgh"), arguments, chance.choice([0, 0, 0, 1])))
    return found


def refuting_pairs(uses, function, kind):
    """Return all pairs of indexes that show that a kind does not fit, those with the least second one first."""
    found = []
    for j, i in itertools.product(range(len(uses)), repeat=2):
        one, other = uses[i], uses[j]
        if i < j and one[1] == other[1] == function and one[2] == other[2] and one[3] != other[3]:
            if kind == "fixed" or (kind == "stable" and one[0] == other[0]):
                found.append((i, j))
    return found


class Fits(unittest.TestCase):
    def test_all_kinds(self):
        expected = {"now": [False, True, True, True], "tax": [True] * 4, "draw": [False, False, True, True],
                    "none": [True] * 4}
        for function, told in expected.items():
            for kind, holds in zip(KINDS, told):
                self.assertIs(holds, fits(USES, function, kind))

    def test_no_uses_and_one(self):
        for kind in KINDS:
            self.assertIs(True, fits([], "f", kind))
            self.assertIs(True, fits([(4, "f", (1, 2, 3), BIG)], "f", kind))

    def test_other_arguments_and_other_functions(self):
        uses = [(0, "f", (1,), 1), (0, "f", (2,), 2), (0, "g", (1,), 3), (0, "f", (), 4), (0, "f", (1, 2), 5)]
        self.assertIs(True, fits(uses, "f", "fixed"))
        self.assertIs(False, fits([*uses, (0, "f", (1, 2), 6)], "f", "fixed"))


class MostBound(unittest.TestCase):
    def test_the_dict_ascends(self):
        self.assertEqual([("draw", "changing"), ("now", "stable"), ("tax", "fixed")], list(most_bound(USES).items()))
        self.assertEqual({}, most_bound([]))

    def test_one_use(self):
        self.assertEqual({"f": "fixed"}, most_bound([(3, "f", (1,), 2)]))

    def test_each_dict_is_new(self):
        uses = list(USES)
        most_bound(uses).clear()
        self.assertEqual(3, len(most_bound(uses)))
        self.assertEqual(USES, uses)


class Refuting(unittest.TestCase):
    def test_the_least_second_one_then_the_least_first_one(self):
        self.assertEqual((0, 3), refuting(USES, "now", "fixed"))
        self.assertEqual((5, 6), refuting(USES, "draw", "fixed"))
        self.assertEqual((5, 6), refuting(USES, "draw", "stable"))
        uses = [(0, "f", (), 1), (1, "f", (), 2), (1, "f", (), 1), (1, "f", (), 1)]
        self.assertEqual([(0, 1), (1, 2)], [refuting(uses, "f", kind) for kind in ("fixed", "stable")])
        uses = [(0, "f", (1,), 1), (0, "f", (2,), 1), (0, "f", (1,), 1), (0, "f", (2,), 2), (0, "f", (1,), 2)]
        self.assertEqual((1, 3), refuting(uses, "f", "fixed"))

    def test_none(self):
        for kind in ("changing", "effect"):
            self.assertIsNone(refuting(USES, "draw", kind))
        self.assertIsNone(refuting(USES, "now", "stable"))
        self.assertIsNone(refuting(USES, "tax", "fixed"))
        self.assertIsNone(refuting([], "tax", "fixed"))


class IsRefuting(unittest.TestCase):
    def test_the_least_and_others(self):
        for pair in [(0, 3), (2, 3), (3, 7)]:
            self.assertIs(True, is_refuting(USES, "now", "fixed", pair))
            self.assertIs(False, is_refuting(USES, "now", "stable", pair))
            self.assertIs(False, is_refuting(USES, "draw", "fixed", pair))
            self.assertIs(False, is_refuting(USES, "now", "changing", pair))

    def test_the_wrong_way_about_equal_and_out_of_range(self):
        for pair in [(3, 0), (0, 0), (3, 3), (0, 2), (0, 10), (-10, 3), (-7, 3), (0, -7), (10, 11), (0, BIG), (0, 1)]:
            self.assertIs(False, is_refuting(USES, "now", "fixed", pair))

    def test_other_values(self):
        uses = [(0, "f", (), 1), (0, "f", (), 2)]
        self.assertIs(True, is_refuting(uses, "f", "stable", (0, 1)))
        self.assertIs(False, is_refuting(uses, "f", "stable", (-1, 0)))
        for thing in [(False, True), (0, True), (False, 1), [0, 1], (0, 1, 1), (0,), (), ("0", "1"), (Equal(), Equal()),
                      ((0, 1),), {0: 1}, (None, 1), ([0], 1), tuple(range(10000)), "9" * 5000, *of_all_sorts()]:
            self.assertIs(False, is_refuting(uses, "f", "stable", thing))
            if not isinstance(thing, int) or isinstance(thing, bool):
                self.assertIs(False, is_refuting(uses, "f", "stable", (0, thing)))


class WrongLabels(unittest.TestCase):
    def test_functions_of_the_schema(self):
        self.assertEqual([], wrong_labels(SCHEMA, USES))
        changed = SCHEMA.with_kinds({"draw": "stable", "now": "fixed"})
        self.assertEqual([("draw", "stable", (5, 6)), ("now", "fixed", (0, 3))], wrong_labels(changed, USES))
        self.assertEqual([("now", "fixed", (0, 3))], wrong_labels(Schema({}, {"now": (0, "fixed")}), USES))
        self.assertEqual([], wrong_labels(Schema({}, {}), USES))
        self.assertEqual([], wrong_labels(changed, []))

    def test_each_list_is_new(self):
        changed = SCHEMA.with_kinds({"draw": "stable"})
        wrong_labels(changed, USES).clear()
        self.assertEqual(1, len(wrong_labels(changed, USES)))


class ByChance(unittest.TestCase):
    def test_all_pairs(self):
        chance = random.Random(101)
        for _ in range(150):
            uses = some_uses(chance)
            bound = {}
            for function, kind in itertools.product("fgh", KINDS):
                pairs = refuting_pairs(uses, function, kind)
                self.assertEqual(pairs[0] if pairs else None, refuting(uses, function, kind))
                self.assertIs(not pairs, fits(uses, function, kind))
                if not pairs and function in [use[1] for use in uses]:
                    bound.setdefault(function, kind)
                for pair in [(chance.randint(-1, 40), chance.randint(-1, 40)) for _ in range(20)] + pairs[:5]:
                    self.assertIs(pair in pairs, is_refuting(uses, function, kind, pair))
            self.assertEqual(bound, most_bound(uses))
            kinds = {name: chance.choice(KINDS) for name in "fgh"}
            schema = Schema({}, {name: (0, kinds[name]) for name in "fgh"})
            expected = [(name, kinds[name], refuting(uses, name, kinds[name])) for name in "fgh"
                        if refuting_pairs(uses, name, kinds[name])]
            self.assertEqual(expected, wrong_labels(schema, uses))


if __name__ == "__main__":
    unittest.main()
