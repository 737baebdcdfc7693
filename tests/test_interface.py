"""The names, arguments and places that the section "The interface" lists."""

import inspect
import unittest

from plancalls import contents, kinds, schemas

FUNCTIONS = {
    kinds: {
        "is_integer": "(thing)", "is_name": "(thing)", "is_kind": "(thing)", "freer": "(one, other)",
        "as_free": "(one, other)",
    },
}
CLASSES = {
    schemas: {
        "Schema": {
            "__init__": "(self, tables, functions, *, keys=None, references=(), made=())",
            "tables": "(self)", "functions": "(self)", "references": "(self)", "made": "(self)",
            "columns": "(self, table)", "targets": "(self, table, column)", "key_columns": "(self)",
            "key": "(self, table)", "arguments": "(self, function)", "kind": "(self, function)",
            "made_of": "(self, table, column)", "with_kinds": "(self, changes)", "as_bound": "(self, other)",
            "__eq__": "(self, other)",
        },
    },
    contents: {
        "Contents": {
            "__init__": "(self, schema, rows)", "rows": "(self, table)", "size": "(self, table)",
            "with_rows": "(self, table, rows)", "__eq__": "(self, other)",
        },
    },
}


class Interface(unittest.TestCase):
    def test_functions(self):
        for module, functions in FUNCTIONS.items():
            for name, signature in functions.items():
                with self.subTest(name):
                    function = getattr(module, name)
                    self.assertEqual(module.__name__, function.__module__)
                    self.assertEqual(signature, str(inspect.signature(function)))

    def test_classes_and_their_own_methods(self):
        for module, classes in CLASSES.items():
            for name, methods in classes.items():
                self.assertEqual(module.__name__, getattr(module, name).__module__)
                for method, signature in methods.items():
                    with self.subTest(name=name, method=method):
                        found = vars(getattr(module, name))[method]
                        self.assertEqual(signature, str(inspect.signature(found)))

    def test_properties(self):
        self.assertIsInstance(vars(contents.Contents)["schema"], property)

    def test_what_stands_behind_the_star_is_passed_by_keyword(self):
        with self.assertRaises(TypeError):
            schemas.Schema({}, {}, None)


if __name__ == "__main__":
    unittest.main()
