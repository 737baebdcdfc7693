"""The lines of the document's examples, in one session."""

import unittest

from plancalls import errors

# Behind [22].
SCHEMAS = '''
>>> from plancalls.kinds import freer
>>> from plancalls.schemas import Schema
>>> shop = Schema({"item": ["id", "price", "net"], "sale": ["item"]}, {"tax": (1, "fixed"), "log": (1, "effect")}, keys={"item": "id"}, references=[("sale", "item", "item")], made=[("item", "net", "tax", ("price",))])
>>> [shop.tables(), shop.columns("item"), shop.key("sale"), shop.targets("sale", "item"), shop.kind("log")]
[['item', 'sale'], ['id', 'price', 'net'], None, ['item'], 'effect']
>>> [freer("changing", "stable"), shop.with_kinds({"log": "fixed"}).as_bound(shop), shop.as_bound(shop.with_kinds({"log": "fixed"}))]
[True, True, False]
>>> shop.with_kinds({"tax": "stable"})
raises NotFixed('tax')
'''


def result_of(line, session):
    """Return what the document writes behind a line: nothing, a value, or an error."""
    try:
        value = eval(line, session)
    except SyntaxError:
        exec(line, session)
        return ""
    except errors.PlanError as error:
        fields = ", ".join([repr(field) for field in vars(error).values()])
        return f"raises {error.__class__.__name__}({fields})"
    return repr(value)


class Examples(unittest.TestCase):
    def run_examples(self, text, session):
        parts = text.strip().removeprefix(">>> ").split("\n>>> ")
        for part in parts:
            line, _, expected = part.partition("\n")
            with self.subTest(line):
                self.assertEqual(expected, result_of(line, session))
        return len(parts)

    def test_the_examples(self):
        session = {}
        self.assertEqual(6, self.run_examples(SCHEMAS, session))


if __name__ == "__main__":
    unittest.main()
