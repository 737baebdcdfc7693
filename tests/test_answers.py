import unittest

from plancalls.answers import Answers, keeps
from plancalls.contents import Contents
from plancalls.schemas import Schema
from things import Equal, EqualityCase, error_of, of_all_sorts, of_other_sorts

TOLD = {((), 0): 4, ((1,), 0): -1, ((1,), 2): 10 ** 39, ((1, 2), 0): 5, ((2, 1), 0): 6, ((1, 2, 3), 7): 0}
QUESTIONS = [(arguments, many) for arguments in [(), (1,), (-1,), (1, 2), (2, 1), (1, 2, 3), (10 ** 39,)]
             for many in [0, 1, 2, 3, 7, 10 ** 39]]


def all_told(answers):
    """Return what all queries of Answers return, and what they answer to some questions."""
    return [answers.told(), answers.rest, answers.step, [answers(*question) for question in QUESTIONS]]


class Described(unittest.TestCase):
    def test_nothing_told(self):
        for answers in [Answers(), Answers(None), Answers({}), Answers(rest=0, step=0)]:
            self.assertEqual([{}, 0, 0, [0] * len(QUESTIONS)], all_told(answers))

    def test_wrong_told(self):
        keys = [(), ((),), ((), 0, 0), (0, 0), (0, ()), ("a", 0), (None, 0), (((1,),), 0), (("1",), 0), ((True,), 0),
                ((1, False), 0), ((None,), 0), ((1, 2, 3, 4), 0), ((1,), -1), ((1,), True), ((1,), False),
                ((1,), "0"), ((1,), None), ((1,), (0,)), 0, "ab", None, b"ab", frozenset(), range(2), (range(1), 0),
                ("", 0), (b"", 0), (frozenset(), 0)]
        wrong = [{key: 0} for key in keys] + [{((), 0): 0, key: 0} for key in keys]
        wrong += [{((), 0): thing} for thing in [None, True, False, "", "1", (), (1,), [1], {}, b"1"]]
        wrong += [{((), 0): 0, ((), 1): thing} for thing in [None, True, "1", []]]
        wrong += [[((), 0)], [(((), 0), 1)], ((((), 0), 1),)]
        wrong += [thing for thing in of_other_sorts(dict) if thing is not None]
        wrong += [{"a": "b"}, {1: 2}, {None: None}]
        for thing in wrong:
            with self.subTest(thing=thing):
                self.assertEqual(("Wrong", 0), error_of(lambda: Answers(thing)))

    def test_wrong_rest_and_step(self):
        for thing in of_other_sorts(int) + [True, False]:
            with self.subTest(thing=thing):
                self.assertEqual(("Wrong", 1), error_of(lambda: Answers(rest=thing)))
                self.assertEqual(("Wrong", 2), error_of(lambda: Answers(step=thing)))

    def test_the_first_wrong_argument_is_told(self):
        self.assertEqual(("Wrong", 0), error_of(lambda: Answers([], rest=None, step=None)))
        self.assertEqual(("Wrong", 1), error_of(lambda: Answers({}, rest=None, step=None)))
        self.assertEqual(("Wrong", 0), error_of(lambda: Answers({((), 0): None}, step="a")))


class Asked(unittest.TestCase):
    def test_what_was_told(self):
        answers = Answers(TOLD, rest=100, step=7)
        for (arguments, many), answer in TOLD.items():
            self.assertEqual(answer, answers(arguments, many))

    def test_what_was_not_told(self):
        answers = Answers(TOLD, rest=100, step=7)
        for arguments, many in [((), 1), ((1,), 1), ((1,), 3), ((-1,), 0), ((1, 1), 0), ((2, 1, 3), 7),
                                ((0,), 10 ** 9)]:
            self.assertEqual(100 + 7 * many, answers(arguments, many))
        self.assertEqual([-3, -13], [Answers(rest=-3, step=-10)((), many) for many in (0, 1)])

    def test_zero_is_an_answer(self):
        self.assertEqual(0, Answers({((), 0): 0}, rest=9)((), 0))

    def test_arguments_as_a_list(self):
        answers = Answers(TOLD, rest=100, step=7)
        for arguments, many in QUESTIONS:
            self.assertEqual(answers(arguments, many), answers(list(arguments), many))
        self.assertEqual([4, -1, 5, 6, 107], [answers([], 0), answers([1], 0), answers([1, 2], 0), answers([2, 1], 0),
                                              answers([], 1)])

    def test_always(self):
        for value in [0, 1, -5, 10 ** 39]:
            answers = Answers.always(value)
            self.assertEqual([{}, value, 0, [value] * len(QUESTIONS)], all_told(answers))
            self.assertIsInstance(answers, Answers)
            self.assertEqual(all_told(answers), all_told(Answers({((), 0): 8}, step=2).always(value)))


class Told(unittest.TestCase):
    def test_told_is_what_was_passed_in(self):
        self.assertEqual(TOLD, Answers(TOLD, rest=100, step=7).told())
        self.assertEqual({((3,), 1): 5}, Answers({((3,), 1): 5}, rest=4, step=1).told())

    def test_the_order_of_keys_means_nothing(self):
        turned = {key: TOLD[key] for key in reversed(TOLD)}
        self.assertEqual(list(Answers(TOLD).told()), list(Answers(turned).told()))

    def test_rest_and_step(self):
        answers = Answers(TOLD, rest=100, step=-7)
        self.assertEqual([100, -7], [answers.rest, answers.step])
        for name in ["rest", "step"]:
            with self.assertRaises(AttributeError):
                setattr(answers, name, 1)

    def test_with_answer(self):
        one = Answers({((1,), 0): 2}, rest=5, step=1)
        more = one.with_answer((1,), 1, 3)
        self.assertEqual({((1,), 0): 2, ((1,), 1): 3}, more.told())
        self.assertEqual([5, 1, 3, 7], [more.rest, more.step, more((1,), 1), more((), 2)])
        instead = more.with_answer((1,), 0, 9)
        self.assertEqual({((1,), 0): 9, ((1,), 1): 3}, instead.told())
        self.assertEqual({((1,), 0): 2}, one.told())
        self.assertEqual([2, 6, 2], [one((1,), 0), one((1,), 1), more((1,), 0)])
        arguments = [1]
        listed = one.with_answer(arguments, 1, 3)
        arguments.append(2)
        self.assertEqual(more.told(), listed.told())

    def test_with_an_answer_that_would_be_given_anyway(self):
        answers = Answers(rest=5, step=1).with_answer((), 2, 7)
        self.assertEqual({((), 2): 7}, answers.told())
        self.assertTrue(answers == Answers(rest=5, step=1))


class Equality(EqualityCase):
    def test_equal_answers(self):
        self.assert_equal(Answers(), Answers(None, rest=0))
        self.assert_equal(Answers(TOLD, rest=1, step=2), Answers(dict(reversed(TOLD.items())), rest=1, step=2))
        self.assert_equal(Answers.always(3), Answers(rest=3))

    def test_answers_that_return_the_same_though_they_were_told_otherwise(self):
        self.assert_equal(Answers({((1,), 2): 9}, rest=5, step=2), Answers(rest=5, step=2))
        self.assert_equal(Answers({((1,), 2): 9, ((), 0): 5}, rest=5, step=2),
                          Answers({((3, 4), 1): 7}, rest=5, step=2))
        self.assert_equal(Answers({((1,), 2): 9, ((), 0): 6}, rest=5, step=2), Answers({((), 0): 6}, rest=5, step=2))
        self.assert_equal(Answers({((), 0): 0}), Answers())

    def test_unlike_answers(self):
        one = Answers({((1,), 2): 9}, rest=5, step=1)
        for other in [Answers(rest=5, step=1), Answers({((1,), 2): 8}, rest=5, step=1),
                      Answers({((1,), 1): 9}, rest=5, step=1), Answers({((2,), 2): 9}, rest=5, step=1),
                      Answers({((1,), 2): 9}, rest=4, step=1), Answers({((1,), 2): 9}, rest=5, step=2),
                      Answers({((1,), 2): 9, ((1,), 3): 9}, rest=5, step=1), Answers()]:
            self.assert_unlike(one, other)
            self.assert_unlike(other, one)
        self.assert_unlike(Answers({((), 0): 1, ((), 1): 1, ((1,), 0): 1}), Answers.always(1))
        self.assert_unlike(Answers(step=1), Answers(step=2))
        self.assert_unlike(Answers(rest=1, step=1), Answers(rest=2, step=1))

    def test_things_of_other_sorts(self):
        for thing in [*of_all_sorts(), {((), 0): 1}, lambda arguments, many: 0]:
            with self.subTest(thing=thing):
                self.assert_unlike(Answers(), thing)
                if not isinstance(thing, Equal):
                    self.assert_unlike(thing, Answers())


class Owned(unittest.TestCase):
    def test_what_is_passed_in_is_copied(self):
        told = dict(TOLD)
        answers = Answers(told, rest=1)
        before = all_told(answers)
        told.clear()
        told[((9,), 9)] = 9
        self.assertEqual(before, all_told(answers))

    def test_what_is_returned_is_new(self):
        answers = Answers(TOLD)
        answers.told()[((), 0)] = 77
        answers.told().clear()
        self.assertEqual(all_told(Answers(TOLD)), all_told(answers))
        returned = answers.told()
        other = Answers(returned)
        returned.clear()
        self.assertEqual(TOLD, other.told())

    def test_arguments_are_not_changed(self):
        told = {((2,), 0): 1, ((1,), 0): 2}
        arguments = [2, 1]
        answers = Answers(told)
        answers(arguments, 0)
        self.assertEqual([[((2,), 0), ((1,), 0)], [2, 1]], [list(told), arguments])

    def test_nothing_changes_where_an_error_is_raised(self):
        told = {((), 0): 1, ((), -1): 2}
        self.assertEqual(("Wrong", 0), error_of(lambda: Answers(told)))
        self.assertEqual({((), 0): 1, ((), -1): 2}, told)


def shop(**changed):
    """Return a Schema with two of everything that contents have to keep."""
    told = {
        "keys": {"item": "id", "day": "id"},
        "references": [("sale", "item", "item"), ("sale", "day", "day"), ("day", "id", "item")],
        "made": [("sale", "sum", "times", ("many", "item")), ("item", "net", "tax", ("price",))],
    }
    told.update(changed)
    return Schema({"sale": ["item", "day", "many", "sum"], "item": ["id", "price", "net"], "day": ["id"]},
                  {"tax": (1, "fixed"), "times": (2, "fixed"), "log": (1, "effect")}, **told)


def goods(**changed):
    """Return Contents of the shop that keep it, with some rows told otherwise."""
    told = {"item": [(1, 10, 11), (2, 20, 21), (3, 10, 11)], "day": [(3,), (1,)],
            "sale": [(1, 3, 5, 5), (2, 1, 4, 8), (2, 1, 4, 8)]}
    told.update(changed)
    return Contents(shop(), told)


def tax(arguments, many):
    return arguments[0] + 1 + 1000 * many


def times(arguments, many):
    return arguments[0] * arguments[1] + 1000 * many


FUNCTIONS = {"tax": tax, "times": times}


class Keeps(unittest.TestCase):
    def test_contents_that_keep_their_schema(self):
        self.assertIsNone(keeps(shop(), goods(), FUNCTIONS))
        self.assertIsNone(keeps(shop(), Contents(shop(), {}), FUNCTIONS))
        self.assertIsNone(keeps(Schema({}, {}), Contents(Schema({}, {}), {}), {}))

    def test_equal_rows_without_a_key(self):
        schema = Schema({"a": ["x"]}, {})
        self.assertIsNone(keeps(schema, Contents(schema, {"a": [(1,), (1,)]}), {}))

    def test_keys(self):
        for rows, number in [([(1, 0, 1), (1, 0, 1)], 1), ([(1, 0, 1), (2, 0, 1), (3, 0, 1), (2, 5, 6), (1, 7, 8)], 3),
                             ([(4, 0, 1), (1, 0, 1), (3, 0, 1), (3, 0, 1), (4, 0, 1)], 3)]:
            self.assertEqual(("key", "item", number), keeps(shop(), goods(item=rows), FUNCTIONS))
        self.assertEqual(("key", "day", 2), keeps(shop(), goods(day=[(3,), (1,), (1,), (3,)]), FUNCTIONS))

    def test_keys_that_are_not_the_first_column(self):
        schema = Schema({"a": ["x", "y"]}, {}, keys={"a": "y"})
        self.assertIsNone(keeps(schema, Contents(schema, {"a": [(1, 2), (1, 3)]}), {}))
        self.assertEqual(("key", "a", 1), keeps(schema, Contents(schema, {"a": [(1, 2), (3, 2)]}), {}))

    def test_references(self):
        sales = [(1, 3, 5, 5), (2, 2, 4, 8), (4, 1, 4, 16), (5, 9, 0, 0)]
        self.assertEqual(("reference", "sale", "day", "day", 1), keeps(shop(), goods(sale=sales), FUNCTIONS))
        self.assertEqual(("reference", "sale", "item", "item", 2),
                         keeps(shop(), goods(sale=[sales[0], sales[0], sales[2], sales[2]]), FUNCTIONS))
        self.assertEqual(("reference", "day", "id", "item", 2),
                         keeps(shop(), goods(day=[(3,), (1,), (4,), (5,)]), FUNCTIONS))
        self.assertEqual(("reference", "day", "id", "item", 0), keeps(shop(), goods(item=[]), FUNCTIONS))

    def test_references_from_one_column_to_several_tables(self):
        schema = Schema({"a": ["x"], "b": ["y"], "c": ["z", "k"]}, {}, keys={"b": "y", "c": "k"},
                        references=[("a", "x", "c"), ("a", "x", "b")])
        for b, c, fault in [([1, 2], [2, 1], None), ([1], [2, 1], ("b", 0)), ([2, 1], [2], ("c", 1)),
                            ([2], [1], ("b", 1)), ([], [], ("b", 0))]:
            rows = {"a": [(2,), (1,)], "b": [(key,) for key in b], "c": [(0, key) for key in c]}
            expected = fault and ("reference", "a", "x", *fault)
            self.assertEqual(expected, keeps(schema, Contents(schema, rows), {}))

    def test_a_reference_to_its_own_table(self):
        schema = Schema({"a": ["id", "up"]}, {}, keys={"a": "id"}, references=[("a", "up", "a")])
        self.assertIsNone(keeps(schema, Contents(schema, {"a": [(1, 2), (2, 1), (3, 3)]}), {}))
        self.assertEqual(("reference", "a", "up", "a", 1),
                         keeps(schema, Contents(schema, {"a": [(1, 2), (2, 3)]}), {}))

    def test_made_columns(self):
        self.assertEqual(("made", "item", "net", 1),
                         keeps(shop(), goods(item=[(1, 10, 11), (2, 20, 20), (3, 10, 10)]), FUNCTIONS))
        self.assertEqual(("made", "sale", "sum", 2),
                         keeps(shop(), goods(sale=[(1, 3, 5, 5), (2, 1, 4, 8), (2, 1, 4, 9)]), FUNCTIONS))
        self.assertEqual(("made", "item", "net", 0), keeps(shop(), goods(), {**FUNCTIONS, "tax": Answers.always(7)}))

    def test_the_first_fault_is_told(self):
        wrong = {"item": [(1, 10, 10), (1, 20, 20)], "day": [(8,), (8,)], "sale": [(7, 7, 7, 7)]}
        self.assertEqual(("key", "day", 1), keeps(shop(), goods(**wrong), FUNCTIONS))
        wrong["day"] = [(8,)]
        self.assertEqual(("key", "item", 1), keeps(shop(), goods(**wrong), FUNCTIONS))
        wrong["item"] = [(1, 10, 10), (2, 20, 20)]
        self.assertEqual(("reference", "day", "id", "item", 0), keeps(shop(), goods(**wrong), FUNCTIONS))
        wrong["day"] = [(2,)]
        self.assertEqual(("reference", "sale", "day", "day", 0), keeps(shop(), goods(**wrong), FUNCTIONS))
        wrong["sale"] = [(1, 2, 7, 7), (7, 2, 7, 7)]
        self.assertEqual(("reference", "sale", "item", "item", 1), keeps(shop(), goods(**wrong), FUNCTIONS))
        wrong["sale"] = [(1, 2, 7, 0)]
        self.assertEqual(("made", "item", "net", 0), keeps(shop(), goods(**wrong), FUNCTIONS))
        wrong["item"] = [(1, 10, 11), (2, 20, 21)]
        self.assertEqual(("made", "sale", "sum", 0), keeps(shop(), goods(**wrong), FUNCTIONS))
        wrong["sale"] = [(1, 2, 7, 7)]
        self.assertIsNone(keeps(shop(), goods(**wrong), FUNCTIONS))

    def test_what_functions_are_asked(self):
        asked = []

        def noting(name):
            def answer(arguments, many):
                asked.append((name, arguments, many))
                return FUNCTIONS[name](arguments, many)
            return answer

        self.assertIsNone(keeps(shop(), goods(), {name: noting(name) for name in FUNCTIONS}))
        self.assertEqual({("tax", (10,), 0), ("tax", (20,), 0), ("times", (5, 1), 0), ("times", (4, 2), 0)}, set(asked))
        self.assertEqual({tuple}, {type(arguments) for _, arguments, _ in asked})

    def test_functions_without_arguments_and_made_columns_of_made_ones(self):
        schema = Schema({"a": ["x", "y", "z"]}, {"one": (0, "fixed"), "add": (3, "fixed")},
                        made=[("a", "x", "one", ()), ("a", "y", "add", ("x", "x", "z"))])
        functions = {"one": Answers.always(1), "add": lambda arguments, many: sum(arguments)}
        self.assertIsNone(keeps(schema, Contents(schema, {"a": [(1, 7, 5), (1, 2, 0)]}), functions))
        self.assertEqual(("made", "a", "y", 1),
                         keeps(schema, Contents(schema, {"a": [(1, 7, 5), (1, 3, 0)]}), functions))
        self.assertEqual(("made", "a", "x", 1),
                         keeps(schema, Contents(schema, {"a": [(1, 8, 5), (2, 3, 0)]}), functions))

    def test_missing_functions(self):
        def never(arguments, many):
            raise AssertionError("nothing is called")

        broken = goods(item=[(1, 1, 1), (1, 1, 1)], sale=[])
        for functions, name in [({}, "tax"), ({"times": never}, "tax"), ({"tax": never}, "times"),
                                ({"log": never}, "tax"), ({"log": never, "tax": never}, "times")]:
            for contents in [goods(), broken, Contents(shop(), {})]:
                self.assertEqual(("Missing", name), error_of(lambda: keeps(shop(), contents, functions)))

    def test_the_least_missing_function_wherever_its_column_stands(self):
        schema = shop(made=[("item", "net", "times", ("price", "id")), ("sale", "sum", "tax", ("many",))])
        self.assertEqual(("Missing", "tax"), error_of(lambda: keeps(schema, Contents(schema, {}), {})))
        names = "edcbaf"
        made = [(f"t{column}", column, name, ()) for column, name in zip("uvwxyz", names)]
        schema = Schema({item[0]: [item[1]] for item in made}, {name: (0, "fixed") for name in names}, made=made)
        contents = Contents(schema, {})
        for at, name in enumerate("abcdef"):
            functions = {other: Answers() for other in "abcdef"[:at]}
            self.assertEqual(("Missing", name), error_of(lambda: keeps(schema, contents, functions)))

    def test_functions_that_make_no_column_are_not_needed(self):
        schema = shop(made=[("item", "net", "tax", ("price",))])
        contents = Contents(schema, {"item": [(1, 1, 2)]})
        self.assertIsNone(keeps(schema, contents, {"tax": tax}))
        self.assertIsNone(keeps(schema, contents, {"tax": tax, "other": None, "log": None}))

    def test_nothing_is_changed(self):
        schema, contents, functions = shop(), goods(), dict(FUNCTIONS)
        self.assertIsNone(keeps(schema, contents, functions))
        self.assertEqual([shop(), goods(), FUNCTIONS], [schema, contents, functions])


if __name__ == "__main__":
    unittest.main()
