import inspect
import unittest

from plancalls import errors
from things import of_all_sorts

FIELDS = {
    "Wrong": ["place"], "BadKey": ["table"], "BadReference": ["at"], "BadMade": ["at"],
    "Ringed": ["table", "column"], "Unknown": ["name"], "NotFixed": ["name"], "BadRow": ["table", "at"],
    "Missing": ["name"], "BadItem": ["at"], "BadShown": ["at"], "BadMark": ["name"], "NoUse": [],
    "Hidden": ["place", "loop"], "Loose": ["at"], "NoSite": ["stream", "index"], "Unlike": [],
    "Parted": ["stream", "index", "word"], "NoNumber": ["number"], "NoMove": [], "Twice": ["table"],
    "TooMany": ["limit"], "Full": ["limit"], "Unfit": [], "Nothing": [], "NoEntry": ["many"], "NoText": [],
    "NoCommand": [],
}


class Errors(unittest.TestCase):
    def test_there_are_just_these_classes(self):
        classes = [name for name, thing in vars(errors).items() if inspect.isclass(thing)]
        self.assertEqual(28, len(FIELDS))
        self.assertEqual(sorted(["PlanError", *FIELDS]), sorted(classes))

    def test_each_is_a_direct_subclass_of_plan_error(self):
        self.assertEqual((ValueError,), errors.PlanError.__bases__)
        for name in FIELDS:
            with self.subTest(name):
                self.assertEqual((errors.PlanError,), getattr(errors, name).__bases__)

    def test_plan_error_may_be_constructed_as_value_error_may(self):
        for arguments in [(), ("a",), ("a", 1), ([],)]:
            with self.subTest(arguments):
                error = errors.PlanError(*arguments)
                self.assertEqual(ValueError(*arguments).args, error.args)
                self.assertEqual(str(ValueError(*arguments)), str(error))

    def test_the_fields_have_the_names_of_the_signature(self):
        for name, fields in FIELDS.items():
            with self.subTest(name):
                self.assertEqual(fields, list(inspect.signature(getattr(errors, name)).parameters))
                values = [object() for _ in fields]
                self.assertEqual(dict(zip(fields, values)), vars(getattr(errors, name)(*values)))

    def test_the_fields_are_the_objects_themselves(self):
        for name, fields in FIELDS.items():
            for at in range(len(fields)):
                for thing in of_all_sorts():
                    values = [None] * len(fields)
                    values[at] = thing
                    with self.subTest(name=name, thing=thing):
                        self.assertIs(thing, getattr(getattr(errors, name)(*values), fields[at]))

    def test_other_numbers_of_arguments_do_not_fit(self):
        for name, fields in FIELDS.items():
            with self.subTest(name):
                self.assertRaises(TypeError, getattr(errors, name), *[0] * (len(fields) + 1))
                if fields:
                    self.assertRaises(TypeError, getattr(errors, name), *[0] * (len(fields) - 1))

    def test_each_is_caught_as_value_error(self):
        for name, fields in FIELDS.items():
            with self.subTest(name), self.assertRaises(ValueError):
                raise getattr(errors, name)(*fields)


if __name__ == "__main__":
    unittest.main()
