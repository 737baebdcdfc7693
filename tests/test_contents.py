import unittest

from plancalls.contents import Contents
from plancalls.schemas import Schema
from things import Equal, EqualityCase, error_of, of_all_sorts, of_other_sorts


def market(**changed):
    """Return a Schema with tables of one, two and three columns."""
    told = {"keys": {"price": "item"}, "references": [("cart", "item", "price")]}
    told.update(changed)
    return Schema({"price": ["item", "cost"], "cart": ["item", "many", "sum"], "day": ["id"]},
                  {"tax": (1, "fixed"), "log": (1, "effect")}, **told)


def stock(**changed):
    """Return Contents with rows in all tables, with some told otherwise."""
    told = {"cart": [(7, 2, 0), (8, 1, 0), (7, 2, 0)], "price": [(7, 100), (8, 50)], "day": [(1,)]}
    told.update(changed)
    return Contents(market(), told)


def all_told(contents):
    """Return what all queries of Contents return."""
    tables = contents.schema.tables()
    return [(table, contents.rows(table), contents.size(table)) for table in tables]


# What is no row of a table with two columns.
NO_ROWS = [(), (1,), (1, 2, 3), [1, 2], [], "12", b"12", None, 12, {}, {1: 1, 2: 2}, {1, 2}, range(2), (1, "2"),
           (None, 2), (1, True), (False, 1), (True, True), ((1,), 2), ([1], 2), ("a", "b"), (1, (2,)), object()]


class Described(unittest.TestCase):
    def test_wrong_schemas(self):
        for thing in [*of_all_sorts(), Schema, {"price": ["item"]}]:
            with self.subTest(thing=thing):
                self.assertEqual(("Wrong", 0), error_of(lambda: Contents(thing, {})))
                self.assertEqual(("Wrong", 0), error_of(lambda: Contents(thing, thing)))

    def test_wrong_rows(self):
        wrong = [{"day": thing} for thing in of_other_sorts(list, tuple)]
        wrong += [{"day": [], "cart": thing} for thing in of_other_sorts(list, tuple)]
        wrong += [{thing: []} for thing in ["", "abcdefghi", "A", "a1", 1, None, True, b"a", ("a",)]]
        wrong += [{"day": [], 1: []}, [("day", [])], *of_other_sorts(dict), {"a": "b"}]
        for thing in wrong:
            with self.subTest(thing=thing):
                self.assertEqual(("Wrong", 1), error_of(lambda: Contents(market(), thing)))

    def test_wrong_comes_before_all_else(self):
        self.assertEqual(("Wrong", 1), error_of(lambda: Contents(market(), {"none": [], "day": None})))
        self.assertEqual(("Wrong", 1), error_of(lambda: Contents(market(), {"cart": [()], "day": {}})))
        self.assertEqual(("Wrong", 1), error_of(lambda: Contents(market(), {"aaa": [], "A": []})))

    def test_unknown_tables(self):
        for rows, name in [({"none": []}, "none"), ({"none": [(1,)]}, "none"), ({"day": [(1,)], "tax": []}, "tax"),
                           ({"item": []}, "item"), ({"zzz": [], "day": [], "xxx": [], "yyy": ()}, "xxx")]:
            with self.subTest(rows=rows):
                self.assertEqual(("Unknown", name), error_of(lambda: Contents(market(), rows)))

    def test_unknown_comes_before_bad_rows(self):
        self.assertEqual(("Unknown", "zzz"), error_of(lambda: Contents(market(), {"cart": [()], "zzz": []})))
        self.assertEqual(("Unknown", "aaa"), error_of(lambda: Contents(market(), {"cart": [()], "aaa": [()]})))

    def test_bad_rows(self):
        good = (1, 2)
        for bad in NO_ROWS:
            for rows, at in [([bad], 0), ((bad,), 0), ([good, bad], 1), ([good, good, bad, good, bad], 2)]:
                with self.subTest(rows=rows):
                    self.assertEqual(("BadRow", "price", at), error_of(lambda: Contents(market(), {"price": rows})))

    def test_bad_rows_of_several_tables(self):
        bad = {"price": [None], "day": [(1,), (2,), (True,)], "cart": [(1, 2, 3), (1, 2), (1, 2, 3), ()]}
        self.assertEqual(("BadRow", "cart", 1), error_of(lambda: Contents(market(), bad)))
        del bad["cart"]
        self.assertEqual(("BadRow", "day", 2), error_of(lambda: Contents(market(), bad)))
        bad["day"].pop()
        self.assertEqual(("BadRow", "price", 0), error_of(lambda: Contents(market(), bad)))

    def test_rows_of_another_table(self):
        self.assertEqual(("BadRow", "day", 0), error_of(lambda: Contents(market(), {"day": [(1, 2)]})))
        self.assertEqual(("BadRow", "cart", 0), error_of(lambda: Contents(market(), {"cart": [(1, 2)]})))


class Queries(unittest.TestCase):
    def test_rows_in_their_order(self):
        self.assertEqual([(7, 2, 0), (8, 1, 0), (7, 2, 0)], stock().rows("cart"))
        self.assertEqual([(8, 50), (7, 100)], stock(price=((8, 50), (7, 100))).rows("price"))
        self.assertEqual([3, 1, 2], [stock().size(table) for table in ["cart", "day", "price"]])

    def test_tables_that_are_no_key_have_no_rows(self):
        for contents in [Contents(market(), {}), Contents(market(), {"day": []}), Contents(market(), {"day": ()})]:
            self.assertEqual([("cart", [], 0), ("day", [], 0), ("price", [], 0)], all_told(contents))
        self.assertEqual([], Contents(market(), {"cart": [(1, 2, 3)]}).rows("day"))

    def test_integers_of_any_size(self):
        rows = [(0, -1), (10 ** 39, -10 ** 39), (-10 ** 40, 10 ** 60)]
        self.assertEqual(rows, stock(price=rows).rows("price"))

    def test_contents_need_not_keep_their_schema(self):
        schema = market(made=[("cart", "sum", "tax", ("many",))])
        rows = {"price": [(1, 5), (1, 6)], "cart": [(9, 1, 1), (9, 1, 2)]}
        contents = Contents(schema, rows)
        self.assertEqual([rows["price"], rows["cart"]], [contents.rows("price"), contents.rows("cart")])

    def test_no_tables(self):
        self.assertEqual([], all_told(Contents(Schema({}, {}), {})))
        self.assertEqual(("Unknown", "day"), error_of(lambda: Contents(Schema({}, {}), {"day": []})))

    def test_schema(self):
        self.assertEqual(market(), stock().schema)
        self.assertIsInstance(stock().schema, Schema)
        with self.assertRaises(AttributeError):
            stock().schema = market()

    def test_unknown_names(self):
        for name in ["none", "tax", "item", "", "DAY"]:
            self.assertEqual(("Unknown", name), error_of(lambda: stock().rows(name)))
            self.assertEqual(("Unknown", name), error_of(lambda: stock().size(name)))


class WithRows(unittest.TestCase):
    def test_the_rows_of_one_table_are_others(self):
        for rows in [[(3,), (1,), (3,)], ((2,),), [], ()]:
            with self.subTest(rows=rows):
                contents = stock().with_rows("day", rows)
                self.assertEqual(list(rows), contents.rows("day"))
                self.assertEqual(len(rows), contents.size("day"))
                self.assertEqual([stock().rows("cart"), stock().rows("price")],
                                 [contents.rows("cart"), contents.rows("price")])
                self.assertEqual(stock(day=rows), contents)
                self.assertEqual(market(), contents.schema)

    def test_the_contents_stay(self):
        contents = stock()
        contents.with_rows("day", [])
        self.assertEqual(stock(), contents)
        self.assertEqual([(1,)], contents.rows("day"))

    def test_rows_of_a_table_without_rows(self):
        self.assertEqual(Contents(market(), {"day": [(4,)]}), Contents(market(), {}).with_rows("day", [(4,)]))

    def test_wrong_names(self):
        for thing in [*of_other_sorts(str), "", "abcdefghi", "A", "a1", "a b"]:
            with self.subTest(thing=thing):
                self.assertEqual(("Wrong", 0), error_of(lambda: stock().with_rows(thing, [(1,)])))
                self.assertEqual(("Wrong", 0), error_of(lambda: stock().with_rows(thing, None)))

    def test_wrong_rows(self):
        for thing in of_other_sorts(list, tuple):
            with self.subTest(thing=thing):
                self.assertEqual(("Wrong", 1), error_of(lambda: stock().with_rows("day", thing)))
                self.assertEqual(("Wrong", 1), error_of(lambda: stock().with_rows("none", thing)))

    def test_unknown_tables(self):
        for name in ["none", "tax", "item", "aaa", "zzz"]:
            for rows in [[], [(1,)], [None], ((1, True),)]:
                self.assertEqual(("Unknown", name), error_of(lambda: stock().with_rows(name, rows)))

    def test_bad_rows(self):
        for bad in NO_ROWS:
            for rows, at in [([bad], 0), ((bad,), 0), ([(1, 2), (3, 4), bad, (), (5, 6)], 2)]:
                with self.subTest(rows=rows):
                    self.assertEqual(("BadRow", "price", at), error_of(lambda: stock().with_rows("price", rows)))


class Equality(EqualityCase):
    def test_equal_contents(self):
        self.assert_equal(stock(), stock())
        self.assert_equal(stock(day=[]), Contents(market(), {
            "price": ((7, 100), (8, 50)), "cart": ((7, 2, 0), (8, 1, 0), (7, 2, 0))}))
        self.assert_equal(Contents(market(), {}), Contents(market(), {"cart": (), "day": []}))

    def test_unlike_rows(self):
        for changed in [{"day": []}, {"day": [(2,)]}, {"day": [(1,), (1,)]}, {"price": [(8, 50), (7, 100)]},
                        {"cart": [(7, 2, 0), (8, 1, 0)]}, {"cart": [(7, 2, 0), (7, 2, 0), (8, 1, 0)]}]:
            with self.subTest(changed=changed):
                self.assert_unlike(stock(), stock(**changed))
                self.assert_unlike(stock(**changed), stock())

    def test_unlike_schemas(self):
        one = Contents(market(), {"day": [(1,)]})
        for schema in [market(keys={"price": "item", "day": "id"}), market(references=()),
                       market().with_kinds({"log": "fixed"})]:
            self.assert_unlike(one, Contents(schema, {"day": [(1,)]}))

    def test_things_of_other_sorts(self):
        for thing in [*of_all_sorts(), market(), {"day": [(1,)]}]:
            with self.subTest(thing=thing):
                self.assert_unlike(stock(), thing)
                if not isinstance(thing, Equal):
                    self.assert_unlike(thing, stock())


class Owned(unittest.TestCase):
    def test_what_is_passed_in_is_copied(self):
        day, rows = [(1,)], {"cart": [(1, 2, 3)]}
        rows["day"] = day
        contents = Contents(market(), rows)
        before = all_told(contents)
        day.append((2,))
        rows["cart"].clear()
        rows["price"] = [(1, 2)]
        self.assertEqual(before, all_told(contents))
        more = [(5,)]
        other = contents.with_rows("day", more)
        more.append((6,))
        self.assertEqual([(5,)], other.rows("day"))

    def test_arguments_are_not_changed(self):
        rows = {"price": [(2, 1), (1, 2)], "day": ((2,), (1,)), "cart": []}
        before = repr(rows)
        contents = Contents(market(), rows)
        self.assertEqual(before, repr(rows))
        days = [(2,), (1,), (2,)]
        contents.with_rows("day", days)
        self.assertEqual([(2,), (1,), (2,)], days)
        rows["cart"].append(())
        before = repr(rows)
        self.assertEqual(("BadRow", "cart", 0), error_of(lambda: Contents(market(), rows)))
        self.assertEqual(before, repr(rows))

    def test_what_is_returned_is_new(self):
        contents = stock()
        for table in ["cart", "day", "price"]:
            contents.rows(table).append((1,))
            contents.rows(table).clear()
        self.assertEqual(stock(), contents)
        self.assertEqual(all_told(stock()), all_told(contents))

    def test_a_list_that_is_returned_may_be_passed_in(self):
        rows = stock().rows("cart")
        contents = Contents(market(), {"cart": rows})
        rows.clear()
        self.assertEqual(stock().rows("cart"), contents.rows("cart"))

    def test_nothing_changes_where_an_error_is_raised(self):
        contents = stock()
        for call in [lambda: contents.rows("none"), lambda: contents.size("none"), lambda: contents.with_rows(1, []),
                     lambda: contents.with_rows("day", 1), lambda: contents.with_rows("none", []),
                     lambda: contents.with_rows("day", [(1,), (1, 2)])]:
            error_of(call)
            self.assertEqual(stock(), contents)
            self.assertEqual(all_told(stock()), all_told(contents))


if __name__ == "__main__":
    unittest.main()
