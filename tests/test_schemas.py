import unittest

from plancalls.schemas import Schema
from things import Equal, EqualityCase, error_of, of_all_sorts, of_other_sorts

COLUMNS = ["a", "b", "c", "d", "e"]
NAMES = ["ta", "tb", "tc", "td", "te", "tf"]


def shop(**changed):
    """Return a Schema that has a bit of everything, with some arguments told otherwise."""
    told = {
        "tables": {"sale": ["item", "many", "sum"], "item": ["id", "price", "net"], "day": ["id"]},
        "functions": {"tax": (1, "fixed"), "log": (1, "effect"), "times": (2, "fixed"), "now": (0, "stable")},
        "keys": {"item": "id", "day": "id"},
        "references": [("sale", "item", "item"), ("day", "id", "item")],
        "made": [("sale", "sum", "times", ("many", "item")), ("item", "net", "tax", ("price",))],
    }
    told.update(changed)
    return Schema(told.pop("tables"), told.pop("functions"), **told)


def all_told(schema):
    """Return what all queries of a Schema return for its own names."""
    told = [schema.tables(), schema.functions(), schema.references(), schema.made(), schema.key_columns()]
    for table in schema.tables():
        columns = schema.columns(table)
        told.append((columns, schema.key(table)))
        told.append([(schema.made_of(table, column), schema.targets(table, column)) for column in columns])
    return told + [(schema.arguments(function), schema.kind(function)) for function in schema.functions()]


class Described(unittest.TestCase):
    """Which values the arguments of a Schema may be, and that the others are Wrong."""

    def test_tables(self):
        for tables in [{}, {"a": ["a"]}, {"a": ("a",)}, {"abcdefgh": ["abcdefgh"]}, {"a": COLUMNS},
                       {"a": tuple(COLUMNS)}, {name: ["a"] for name in NAMES}]:
            with self.subTest(tables=tables):
                self.assertEqual(sorted(tables), Schema(tables, {}).tables())
                for table in tables:
                    self.assertEqual(list(tables[table]), Schema(tables, {}).columns(table))

    def test_wrong_tables(self):
        wrong = [{name: ["a"] for name in [*NAMES, "tg"]}, {"a": []}, {"a": ()}, {"a": [*COLUMNS, "f"]},
                 {"a": (*COLUMNS, "f")}, {"a": ["a", "a"]}, {"a": ["a", "b", "a"]}, {"a": "b"}, {"a": {"b": "b"}},
                 {"a": {"b"}}, {"a": None}, {"a": 1}, {"a": ["a"], "b": []}, [("a", ["a"])], (("a", ["a"]),)]
        for thing in [*wrong, *of_other_sorts(dict), {"a": "b"}, {1: 2}, {None: None}]:
            with self.subTest(thing=thing):
                self.assertEqual(("Wrong", 0), error_of(lambda: Schema(thing, {})))

    def test_wrong_names_of_tables_and_columns(self):
        for thing in ["", "abcdefghi", "A", "a1", "\xe4", 1, None, True, b"a", ("a",)]:
            with self.subTest(thing=thing):
                self.assertEqual(("Wrong", 0), error_of(lambda: Schema({thing: ["a"]}, {})))
                self.assertEqual(("Wrong", 0), error_of(lambda: Schema({"a": ["b"], thing: ["a"]}, {})))
                self.assertEqual(("Wrong", 0), error_of(lambda: Schema({"a": [thing]}, {})))
                self.assertEqual(("Wrong", 0), error_of(lambda: Schema({"a": ("b", thing)}, {})))
        for thing in [["a"], {}, set()]:
            with self.subTest(thing=thing):
                self.assertEqual(("Wrong", 0), error_of(lambda: Schema({"a": ["b", thing]}, {})))

    def test_functions(self):
        kinds = ["fixed", "stable", "changing", "effect"]
        for many in range(4):
            for kind in kinds:
                schema = Schema({}, {"f": (many, kind)})
                self.assertEqual([many, kind], [schema.arguments("f"), schema.kind("f")])
        self.assertEqual(NAMES, Schema({}, {name: (0, "fixed") for name in NAMES}).functions())
        self.assertEqual([], Schema({}, {}).functions())

    def test_wrong_functions(self):
        told = [(-1, "fixed"), (4, "fixed"), (10 ** 40, "fixed"), (True, "fixed"), (False, "fixed"), ("1", "fixed"),
                (None, "fixed"), ((), "fixed"), (1, "free"), (1, "Fixed"), (1, ""), (1, None), (1, b"fixed"), (1, 0),
                ("fixed", 1), (), (1,), ("fixed",), (1, "fixed", "fixed"), [1, "fixed"], [], None, 1, "fixed", {}]
        wrong = [{"f": thing} for thing in told] + [{"e": (1, "fixed"), "f": thing} for thing in told]
        wrong.append({name: (0, "fixed") for name in [*NAMES, "tg"]})
        wrong += [{thing: (0, "fixed")} for thing in ["", "abcdefghi", "F", 1, None, True, ("a",)]]
        wrong += [[("f", (0, "fixed"))], *of_other_sorts(dict), {"a": "b"}]
        for thing in wrong:
            with self.subTest(thing=thing):
                self.assertEqual(("Wrong", 1), error_of(lambda: Schema({}, thing)))

    def test_no_keys(self):
        for keys in [None, {}]:
            self.assertEqual({}, Schema({"a": ["a"]}, {}, keys=keys).key_columns())
        self.assertEqual({}, Schema({"a": ["a"]}, {}).key_columns())

    def test_wrong_keys(self):
        wrong = [{"a": thing} for thing in ["", "abcdefghi", "A", 1, None, True, ["a"], ("a",), {}]]
        wrong += [{thing: "a"} for thing in ["", "abcdefghi", "A", 1, None, True, ("a",)]]
        wrong += [{"a": "a", "b": 1}, {"a": "a", 1: "b"}, [("a", "a")]]
        wrong += [thing for thing in of_all_sorts() if thing is not None and not isinstance(thing, dict)]
        for thing in wrong:
            with self.subTest(thing=thing):
                self.assertEqual(("Wrong", 2), error_of(lambda: Schema({"a": ["a"]}, {}, keys=thing)))

    def test_wrong_references(self):
        parts = [["a", "a", "a"], (), ("a",), ("a", "a"), ("a", "a", "a", "a"), "aaa", None, 1, {}, {"a": 1}, {"a"}]
        for thing in ["", "abcdefghi", "A", 1, None, True, ["a"], ("a",)]:
            parts += [(thing, "a", "a"), ("a", thing, "a"), ("a", "a", thing)]
        wrong = [[part] for part in parts] + [(part,) for part in parts] + [[("a", "a", "a"), part] for part in parts]
        wrong += [*of_other_sorts(list, tuple), {("a", "a", "a"): 1}, {("a", "a", "a")}, ("a", "a", "a")]
        for thing in wrong:
            with self.subTest(thing=thing):
                self.assertEqual(
                    ("Wrong", 3), error_of(lambda: Schema({"a": ["a"]}, {}, keys={"a": "a"}, references=thing)))

    def test_wrong_made_columns(self):
        parts = [["a", "a", "f", ()], (), ("a", "a", "f"), ("a", "a", "f", (), ()), "aaaa", None, 1, {}, {"a": 1},
                 ("a", "a", "f", []), ("a", "a", "f", ["a"]), ("a", "a", "f", "a"), ("a", "a", "f", None),
                 ("a", "a", "f", {}), ("a", "a", "f", {"a"}), ("a", "a", "f", ("a", "b", "c", "d"))]
        for thing in ["", "abcdefghi", "A", 1, None, True, ["a"], ("a",)]:
            parts += [(thing, "a", "f", ()), ("a", thing, "f", ()), ("a", "a", thing, ()), ("a", "a", "f", (thing,)),
                      ("a", "a", "f", ("a", "b", thing))]
        wrong = [[part] for part in parts] + [(part,) for part in parts]
        wrong += [[("a", "a", "f", ()), part] for part in parts]
        wrong += [*of_other_sorts(list, tuple), {("a", "a", "f", ()): 1}, {("a", "a", "f", ())}, ("a", "a", "f", ())]
        for thing in wrong:
            with self.subTest(thing=thing):
                self.assertEqual(
                    ("Wrong", 4), error_of(lambda: Schema({"a": ["a"]}, {"f": (0, "fixed")}, made=thing)))

    def test_lists_and_tuples_of_references_and_made_columns(self):
        one = shop()
        self.assertEqual(one, shop(references=tuple(one.references()), made=tuple(one.made())))
        self.assertEqual([], shop(references=()).references())
        self.assertEqual([], shop(references=[]).references())
        self.assertEqual([], shop(made=()).made())
        self.assertEqual([], shop(made=[]).made())

    def test_wrong_is_raised_for_the_first_argument(self):
        wrong = [("tables", {"a": []}), ("functions", {"f": [0, "fixed"]}), ("keys", {"a": 1}),
                 ("references", [("a",)]), ("made", [("a",)])]
        for place in range(5):
            for last in range(place, 5):
                with self.subTest(place=place, last=last):
                    self.assertEqual(("Wrong", place), error_of(lambda: shop(**dict([wrong[place], wrong[last]]))))
                    self.assertEqual(("Wrong", place), error_of(lambda: shop(**dict(wrong[place:last + 1]))))

    def test_a_table_a_function_and_a_column_may_have_the_same_name(self):
        schema = Schema({"a": ["a", "b"]}, {"a": (1, "fixed")}, keys={"a": "b"}, made=[("a", "a", "a", ("b",))])
        self.assertEqual(("a", ("b",)), schema.made_of("a", "a"))
        self.assertEqual(["a", "b"], schema.columns("a"))
        self.assertEqual(1, schema.arguments("a"))


class Refused(unittest.TestCase):
    """BadKey, BadReference, BadMade and Ringed, and which of them comes first."""

    def test_bad_keys(self):
        for keys, table in [
            ({"none": "id"}, "none"), ({"item": "many"}, "item"), ({"item": "item"}, "item"), ({"tax": "id"}, "tax"),
            ({"sale": "id", "none": "id"}, "none"), ({"none": "id", "sale": "id"}, "none"),
            ({"item": "id", "zzz": "id", "sale": "id", "day": "id"}, "sale"),
            ({"day": "none", "cat": "id"}, "cat"), ({name: "id" for name in "zyxwvutsrqponm"}, "m"),
        ]:
            with self.subTest(keys=keys):
                self.assertEqual(("BadKey", table), error_of(lambda: shop(keys=keys)))

    def test_bad_references(self):
        good = ("sale", "item", "item")
        for bad in [("none", "item", "item"), ("sale", "id", "item"), ("sale", "none", "item"),
                    ("sale", "item", "sale"), ("sale", "item", "none"), ("item", "item", "item"),
                    ("tax", "item", "item"), ("sale", "item", "tax"), ("item", "id", "sale")]:
            for references, at in [([bad], 0), ((bad,), 0), ([good, bad], 1), ([good, good, bad, bad], 2),
                                   ([good, bad, good, ("none", "none", "none")], 1)]:
                with self.subTest(references=references):
                    self.assertEqual(("BadReference", at), error_of(lambda: shop(references=references, made=())))

    def test_references_from_keys_and_to_the_own_table(self):
        references = [("item", "id", "item"), ("item", "net", "item"), ("day", "id", "item"), ("item", "id", "day")]
        self.assertEqual(sorted(references), shop(references=references, made=()).references())

    def test_bad_made_columns(self):
        good = ("item", "net", "tax", ("price",))
        for bad in [
            ("none", "net", "tax", ("price",)), ("item", "none", "tax", ("price",)), ("item", "sum", "tax", ("price",)),
            ("item", "id", "tax", ("price",)), ("sale", "item", "tax", ("many",)), ("day", "id", "tax", ("id",)),
            ("item", "price", "none", ("id",)), ("item", "price", "item", ("id",)), ("item", "price", "log", ("id",)),
            ("item", "price", "now", ()), ("item", "price", "tax", ()), ("item", "price", "tax", ("id", "id")),
            ("item", "price", "times", ("id",)), ("item", "price", "times", ("id", "id", "id")),
            ("item", "price", "tax", ("many",)), ("item", "price", "tax", ("none",)),
            ("item", "price", "times", ("id", "many")), ("item", "net", "tax", ("id",)),
            ("item", "net", "times", ("price", "price")), ("item", "net", "tax", ("net",)),
        ]:
            for made, at in [([good, bad], 1), ((good, bad), 1), ([good, good, bad], 2), ([good, bad, bad, good], 1)]:
                with self.subTest(made=made):
                    self.assertEqual(("BadMade", at), error_of(lambda: shop(made=made)))

    def test_the_first_item_may_be_bad(self):
        self.assertEqual(("BadMade", 0), error_of(lambda: shop(made=[("item", "id", "tax", ("price",))])))
        self.assertEqual(
            ("BadMade", 0), error_of(lambda: shop(made=[("a", "b", "c", ()), ("item", "net", "tax", ("price",))])))

    def test_functions_of_any_kind_but_fixed_make_no_column(self):
        for kind in ["stable", "changing", "effect"]:
            for at, made in [(0, [("a", "b", "f", ("a",))]), (1, [("a", "a", "g", ()), ("a", "b", "f", ("a",))])]:
                self.assertEqual(("BadMade", at), error_of(
                    lambda: Schema({"a": ["a", "b"]}, {"f": (1, kind), "g": (0, "fixed")}, made=made)))

    def test_a_column_told_otherwise_a_second_time(self):
        tables, functions = {"a": ["a", "b", "c"]}, {"f": (1, "fixed"), "g": (1, "fixed"), "h": (2, "fixed")}
        first = ("a", "c", "f", ("a",))
        for second in [("a", "c", "f", ("b",)), ("a", "c", "g", ("a",)), ("a", "c", "h", ("a", "b"))]:
            for made, at in [([first, second], 1), ([second, first], 1), ([first, first, second, first], 2),
                             ([first, ("a", "b", "f", ("a",)), second], 2)]:
                with self.subTest(made=made):
                    self.assertEqual(("BadMade", at), error_of(lambda: Schema(tables, functions, made=made)))

    def test_the_column_of_a_reference_is_not_made(self):
        tables, keys = {"a": ["x", "y", "z"], "b": ["x"]}, {"b": "x"}
        for references in [[("a", "z", "b")], [("b", "x", "b"), ("a", "z", "b"), ("a", "x", "b")]]:
            for made, at in [([("a", "z", "f", ("y",))], 0), ([("a", "y", "f", ("z",)), ("a", "z", "f", ("x",))], 1)]:
                self.assertEqual(("BadMade", at), error_of(
                    lambda: Schema(tables, {"f": (1, "fixed")}, keys=keys, references=references, made=made)))

    def test_a_key_or_a_reference_of_another_table_does_no_harm(self):
        schema = Schema({"a": ["x", "y"], "b": ["x", "y"]}, {"f": (1, "fixed")}, keys={"a": "x"},
                        references=[("a", "y", "a")], made=[("b", "x", "f", ("y",))])
        self.assertEqual(("f", ("y",)), schema.made_of("b", "x"))

    def test_made_columns_of_keys_and_of_one_column_twice(self):
        made = [("item", "net", "times", ("id", "id")), ("sale", "sum", "times", ("item", "many"))]
        self.assertEqual(made, shop(made=made).made())

    def test_made_columns_of_none_and_of_three_columns(self):
        made = [("a", "d", "none", ()), ("a", "e", "all", ("c", "a", "b"))]
        schema = Schema({"a": COLUMNS}, {"none": (0, "fixed"), "all": (3, "fixed")}, made=made)
        self.assertEqual(made, schema.made())
        self.assertEqual(("none", ()), schema.made_of("a", "d"))

    def ringed(self, *made):
        functions = {"f": (0, "fixed"), "g": (1, "fixed"), "h": (2, "fixed"), "k": (3, "fixed")}
        told = [(table, column, "fghk"[len(columns)], tuple(columns)) for table, column, columns in made]
        return error_of(lambda: Schema({"a": COLUMNS, "b": COLUMNS}, functions, keys={}, made=told))

    def test_columns_that_hang_on_themselves(self):
        self.assertEqual(("Ringed", "a", "c"), self.ringed(("a", "c", "c")))
        self.assertEqual(("Ringed", "a", "c"), self.ringed(("a", "c", "abc")))
        self.assertEqual(("Ringed", "b", "c"), self.ringed(("b", "c", "bbc")))

    def test_columns_that_hang_on_themselves_by_way_of_others(self):
        self.assertEqual(("Ringed", "a", "b"), self.ringed(("a", "c", "b"), ("a", "b", "c")))
        self.assertEqual(("Ringed", "a", "a"), self.ringed(("a", "c", "b"), ("a", "b", "a"), ("a", "a", "c")))
        chain = [("b", "e", "d"), ("b", "d", "c"), ("b", "c", "b"), ("b", "b", "a"), ("b", "a", "e")]
        self.assertEqual(("Ringed", "b", "a"), self.ringed(*chain))
        self.assertEqual(("Ringed", "a", "c"), self.ringed(("a", "c", "abd"), ("a", "d", "be"), ("a", "e", "abc")))

    def test_a_column_that_only_leads_into_a_ring_is_not_told(self):
        self.assertEqual(("Ringed", "a", "b"), self.ringed(("a", "a", "b"), ("a", "b", "c"), ("a", "c", "b")))
        self.assertEqual(("Ringed", "a", "d"), self.ringed(("a", "a", "cd"), ("a", "d", "d")))

    def test_the_least_of_several_rings(self):
        self.assertEqual(("Ringed", "a", "d"), self.ringed(("b", "a", "a"), ("a", "e", "e"), ("a", "d", "d")))
        self.assertEqual(("Ringed", "b", "a"), self.ringed(("b", "b", "a"), ("b", "a", "b"), ("a", "e", "d")))

    def test_what_is_no_ring(self):
        made = [("a", "e", "h", ("c", "d")), ("a", "d", "g", ("b",)), ("a", "c", "g", ("b",)), ("a", "b", "g", ("a",)),
                ("b", "a", "g", ("b",)), ("b", "b", "k", ("c", "c", "c"))]
        functions = {"g": (1, "fixed"), "h": (2, "fixed"), "k": (3, "fixed")}
        schema = Schema({"a": COLUMNS, "b": COLUMNS}, functions, made=made)
        self.assertEqual(sorted(made), schema.made())

    def test_the_errors_come_in_their_order(self):
        bad = [("keys", {"item": "none", "day": "id"}), ("references", [("sale", "item", "none")]),
               ("made", [("sale", "none", "tax", ("many",))])]
        ring = ("made", [("item", "price", "tax", ("net",)), ("item", "net", "tax", ("price",))])
        self.assertEqual(("BadKey", "item"), error_of(lambda: shop(**dict(bad))))
        self.assertEqual(("BadReference", 0), error_of(lambda: shop(**dict(bad[1:]))))
        self.assertEqual(("BadMade", 0), error_of(lambda: shop(**dict(bad[2:]))))
        self.assertEqual(("BadKey", "item"), error_of(lambda: shop(**dict([bad[0], ring]))))
        self.assertEqual(("BadReference", 0), error_of(lambda: shop(**dict([bad[1], ring]))))
        self.assertEqual(("Ringed", "item", "net"), error_of(lambda: shop(**dict([ring]))))
        self.assertEqual(("BadMade", 2), error_of(lambda: shop(made=[*ring[1], ("item", "id", "tax", ("net",))])))
        for place, name in enumerate(["tables", "functions"]):
            self.assertEqual(("Wrong", place), error_of(lambda: shop(**dict([*bad, (name, None)]))))
        self.assertEqual(("Wrong", 4), error_of(lambda: shop(**dict([*bad[:2], ("made", [()])]))))
        self.assertEqual(("Wrong", 3), error_of(lambda: shop(**dict([bad[0], ("references", [()]), bad[2]]))))


class Queries(unittest.TestCase):
    def test_lists_of_names(self):
        schema = shop()
        self.assertEqual(["day", "item", "sale"], schema.tables())
        self.assertEqual(["log", "now", "tax", "times"], schema.functions())
        self.assertEqual([("day", "id", "item"), ("sale", "item", "item")], schema.references())
        self.assertEqual(
            [("item", "net", "tax", ("price",)), ("sale", "sum", "times", ("many", "item"))], schema.made())
        self.assertEqual({"item": "id", "day": "id"}, schema.key_columns())

    def test_equal_items_count_once(self):
        one = shop()
        twice = shop(references=one.references() * 2, made=[*reversed(one.made()), *one.made()])
        self.assertEqual(one, twice)
        self.assertEqual(all_told(one), all_told(twice))

    def test_of_tables(self):
        schema = shop()
        self.assertEqual(["item", "many", "sum"], schema.columns("sale"))
        self.assertEqual(["id"], schema.columns("day"))
        self.assertEqual("id", schema.key("item"))
        self.assertIsNone(schema.key("sale"))

    def test_of_functions(self):
        schema = shop()
        self.assertEqual([1, 0, 1, 2], [schema.arguments(name) for name in schema.functions()])
        self.assertEqual(["effect", "stable", "fixed", "fixed"], [schema.kind(name) for name in schema.functions()])

    def test_unknown_names(self):
        schema = shop()
        for name in ["none", "tax", "id", "", "ITEM"]:
            self.assertEqual(("Unknown", name), error_of(lambda: schema.columns(name)))
            self.assertEqual(("Unknown", name), error_of(lambda: schema.key(name)))
        for name in ["none", "item", "id", "", "TAX"]:
            self.assertEqual(("Unknown", name), error_of(lambda: schema.arguments(name)))
            self.assertEqual(("Unknown", name), error_of(lambda: schema.kind(name)))

    def test_made_of(self):
        schema = shop()
        self.assertEqual(("tax", ("price",)), schema.made_of("item", "net"))
        self.assertEqual(("times", ("many", "item")), schema.made_of("sale", "sum"))
        for table, column in [("item", "price"), ("item", "sum"), ("sale", "net"), ("none", "net"), ("item", "none")]:
            self.assertIsNone(schema.made_of(table, column))

    def test_targets(self):
        schema = shop(references=[("sale", "item", "item"), ("sale", "item", "day"), ("sale", "many", "item")], made=())
        self.assertEqual(["day", "item"], schema.targets("sale", "item"))
        self.assertEqual(["item"], schema.targets("sale", "many"))
        for table, column in [("sale", "sum"), ("item", "item"), ("none", "item"), ("sale", "none"), ("item", "id")]:
            self.assertEqual([], schema.targets(table, column))


class WithKinds(unittest.TestCase):
    def test_the_kinds_are_told_anew(self):
        schema = shop()
        changed = schema.with_kinds({"log": "changing", "now": "effect"})
        self.assertEqual(["changing", "effect", "fixed", "fixed"], [changed.kind(name) for name in changed.functions()])
        self.assertEqual(shop(functions={"tax": (1, "fixed"), "log": (1, "changing"), "times": (2, "fixed"),
                                         "now": (0, "effect")}), changed)
        self.assertEqual(shop(), schema)
        self.assertEqual(schema, changed.with_kinds({"now": "stable", "log": "effect"}))

    def test_all_else_stays(self):
        schema = shop()
        changed = schema.with_kinds({"log": "fixed"})
        self.assertEqual(all_told(schema)[:-4], all_told(changed)[:-4])
        self.assertEqual([1, 0, 1, 2], [changed.arguments(name) for name in changed.functions()])

    def test_the_same_kinds(self):
        self.assertEqual(shop(), shop().with_kinds({}))
        self.assertEqual(shop(), shop().with_kinds({"tax": "fixed", "times": "fixed", "now": "stable"}))

    def test_a_fixed_function_that_makes_nothing(self):
        schema = shop(made=[("item", "net", "tax", ("price",))])
        self.assertEqual("changing", schema.with_kinds({"times": "changing"}).kind("times"))

    def test_unknown_functions(self):
        schema = shop()
        for changes, name in [({"none": "fixed"}, "none"), ({"item": "fixed"}, "item"),
                              ({"zzz": "fixed", "tax": "fixed", "xxx": "effect", "yyy": "stable"}, "xxx")]:
            self.assertEqual(("Unknown", name), error_of(lambda: schema.with_kinds(changes)))

    def test_functions_that_would_not_be_fixed(self):
        schema = shop()
        for kind in ["stable", "changing", "effect"]:
            self.assertEqual(("NotFixed", "tax"), error_of(lambda: schema.with_kinds({"tax": kind})))
            self.assertEqual(("NotFixed", "times"), error_of(lambda: schema.with_kinds({"log": kind, "times": kind})))
            self.assertEqual(("NotFixed", "tax"), error_of(lambda: schema.with_kinds({"times": kind, "tax": kind})))
            self.assertEqual(
                ("NotFixed", "times"), error_of(lambda: schema.with_kinds({"times": kind, "tax": "fixed"})))

    def test_the_least_function_comes_first_wherever_its_column_stands(self):
        functions = {"f": (1, "fixed"), "g": (1, "fixed")}
        for made in [[("a", "b", "g", ("a",)), ("a", "c", "f", ("a",))],
                     [("a", "c", "g", ("a",)), ("a", "b", "f", ("a",))]]:
            schema = Schema({"a": ["a", "b", "c"]}, functions, made=made)
            self.assertEqual(("NotFixed", "f"), error_of(lambda: schema.with_kinds({"g": "stable", "f": "effect"})))

    def test_unknown_comes_first(self):
        self.assertEqual(("Unknown", "zzz"), error_of(lambda: shop().with_kinds({"tax": "effect", "zzz": "fixed"})))


class Equality(EqualityCase):
    def test_equal_schemas(self):
        self.assert_equal(shop(), shop())
        self.assert_equal(Schema({}, {}), Schema({}, {}, keys={}, references=[], made=[]))
        tuples = {"sale": ("item", "many", "sum"), "item": ("id", "price", "net"), "day": ("id",)}
        self.assert_equal(shop(), shop(tables=tuples))

    def test_orders_that_mean_nothing(self):
        one = shop()
        other = Schema({table: one.columns(table) for table in one.tables()},
                       {name: (one.arguments(name), one.kind(name)) for name in one.functions()},
                       keys={"day": "id", "item": "id"}, references=one.references(), made=one.made())
        self.assert_equal(one, other)
        self.assertEqual(all_told(one), all_told(other))
        self.assertEqual(list(one.key_columns()), list(other.key_columns()))

    def test_unlike_schemas(self):
        one = shop()
        tables = {"sale": ["item", "many", "sum"], "item": ["id", "price", "net"], "day": ["id"]}
        functions = {"tax": (1, "fixed"), "log": (1, "effect"), "times": (2, "fixed"), "now": (0, "stable")}
        for changed in [
            {"tables": {**tables, "item": ["price", "id", "net"]}}, {"tables": {**tables, "day": ["id", "more"]}},
            {"tables": {**tables, "more": ["id"]}}, {"functions": {**functions, "log": (2, "effect")}},
            {"functions": {**functions, "log": (1, "changing")}}, {"functions": {**functions, "more": (1, "fixed")}},
            {"keys": {"item": "id"}}, {"keys": {"item": "id", "day": "id", "sale": "many"}},
            {"references": [("sale", "item", "item")]},
            {"references": [("sale", "item", "day"), ("day", "id", "item")]},
            {"references": [*one.references(), ("sale", "many", "day")]}, {"made": one.made()[:1]},
            {"made": [("item", "net", "tax", ("id",)), *one.made()[1:]]},
            {"made": [("item", "net", "times", ("price", "price")), *one.made()[1:]]},
            {"made": [*one.made()[:1], ("sale", "sum", "times", ("item", "many"))]},
        ]:
            with self.subTest(changed=changed):
                other = shop(**changed)
                self.assert_unlike(one, other)
                self.assert_unlike(other, one)
                self.assert_equal(other, shop(**changed))

    def test_keys_on_other_columns(self):
        one, other = [Schema({"a": ["x", "y"]}, {}, keys={"a": column}) for column in "xy"]
        self.assert_unlike(one, other)
        self.assert_unlike(one, Schema({"a": ["x", "y"]}, {}))

    def test_things_of_other_sorts(self):
        for thing in of_all_sorts():
            with self.subTest(thing=thing):
                self.assert_unlike(shop(), thing)
                if not isinstance(thing, Equal):
                    self.assert_unlike(thing, shop())


class AsBound(unittest.TestCase):
    ORDER = ["fixed", "stable", "changing", "effect"]

    def test_one_function(self):
        for i, kind in enumerate(self.ORDER):
            for j, other in enumerate(self.ORDER):
                one = shop().with_kinds({"log": kind})
                self.assertIs(i <= j, one.as_bound(shop().with_kinds({"log": other})))

    def test_several_functions(self):
        one = shop().with_kinds({"log": "stable", "now": "changing"})
        for log, now, holds in [("stable", "changing", True), ("effect", "effect", True), ("fixed", "effect", False),
                                ("effect", "stable", False), ("stable", "fixed", False), ("fixed", "fixed", False)]:
            self.assertIs(holds, one.as_bound(shop().with_kinds({"log": log, "now": now})))

    def test_schemas_that_differ_in_more_than_kinds(self):
        free = shop().with_kinds({"log": "effect", "now": "effect"})
        for changed in [
            {"tables": {"sale": ["item", "many", "sum"], "item": ["id", "net", "price"], "day": ["id"]}},
            {"keys": {"item": "id", "day": "id", "sale": "many"}}, {"references": [("sale", "item", "item")]},
            {"made": shop().made()[:1]},
            {"functions": {"tax": (1, "fixed"), "log": (2, "fixed"), "times": (2, "fixed"), "now": (0, "fixed")}},
            {"functions": {"tax": (1, "fixed"), "log": (1, "fixed"), "times": (2, "fixed")}},
            {"functions": {"tax": (1, "fixed"), "logs": (1, "fixed"), "times": (2, "fixed"), "now": (0, "fixed")}},
        ]:
            with self.subTest(changed=changed):
                self.assertIs(False, shop(**changed).as_bound(free))
                self.assertIs(False, free.as_bound(shop(**changed)))
                self.assertIs(True, shop(**changed).as_bound(shop(**changed)))


class Owned(unittest.TestCase):
    """What is copied, what is new, and that nothing changes."""

    def test_what_is_passed_in_is_copied(self):
        columns, tables, functions, keys = ["id", "net"], {"more": ["id"]}, {"tax": (1, "fixed")}, {"a": "id"}
        tables["a"] = columns
        references, made = [("more", "id", "a")], [("a", "net", "tax", ("id",))]
        schema = Schema(tables, functions, keys=keys, references=references, made=made)
        before = all_told(schema)
        columns.append("new")
        tables["new"] = ["id"]
        functions["tax"] = (2, "effect")
        keys.clear()
        references.append(("a", "id", "a"))
        made.clear()
        self.assertEqual(before, all_told(schema))

    def test_changes_are_copied(self):
        changes = {"log": "fixed"}
        schema = shop().with_kinds(changes)
        changes["log"] = "stable"
        self.assertEqual("fixed", schema.kind("log"))

    def test_arguments_are_not_changed(self):
        tables, functions, keys = {"b": ["y", "x"], "a": ["x"]}, {"g": (1, "fixed"), "f": (0, "stable")}, {"b": "x"}
        references, made = [("b", "x", "b"), ("a", "x", "b"), ("b", "x", "b")], [("b", "y", "g", ("x",))] * 2
        told = (tables, functions, keys, references, made)
        before = repr(told)
        schema = Schema(tables, functions, keys=keys, references=references, made=made)
        self.assertEqual(before, repr(told))
        changes = {"g": "fixed", "f": "effect"}
        schema.with_kinds(changes)
        self.assertEqual({"g": "fixed", "f": "effect"}, changes)

    def test_what_is_returned_is_new(self):
        schema = shop()
        before = all_told(schema)
        for returned in [schema.tables(), schema.functions(), schema.references(), schema.made(),
                         schema.columns("item"), schema.targets("sale", "item"), schema.targets("none", "none")]:
            returned.append("new")
            returned.reverse()
        schema.key_columns()["sale"] = "many"
        schema.key_columns().clear()
        self.assertEqual(before, all_told(schema))
        self.assertEqual([], schema.targets("none", "none"))

    def test_lists_and_dicts_that_are_returned_may_be_passed_in(self):
        schema = shop()
        keys, references, made = schema.key_columns(), schema.references(), schema.made()
        other = shop(keys=keys, references=references, made=made)
        keys.clear(), references.clear(), made.clear()
        self.assertEqual(schema, other)

    def test_nothing_changes_where_an_error_is_raised(self):
        schema = shop()
        before = all_told(schema)
        for call in [lambda: schema.columns("none"), lambda: schema.key("none"), lambda: schema.kind("none"),
                     lambda: schema.arguments("none"), lambda: schema.with_kinds({"log": "fixed", "none": "fixed"}),
                     lambda: schema.with_kinds({"log": "fixed", "tax": "effect"})]:
            error_of(call)
            self.assertEqual(before, all_told(schema))
            self.assertEqual(shop(), schema)

    def test_arguments_do_not_change_where_an_error_is_raised(self):
        told = ({"b": ["y", "x"], "a": ["x"]}, {"g": (1, "fixed")})
        more = {"keys": {"b": "x"}, "references": [("a", "x", "b")], "made": [("b", "y", "g", ("y",))]}
        before = repr((told, more))
        self.assertEqual(("Ringed", "b", "y"), error_of(lambda: Schema(*told, **more)))
        self.assertEqual(before, repr((told, more)))


if __name__ == "__main__":
    unittest.main()
