"""What several tests need: things of all sorts, the errors that calls raise, and equality."""

import unittest

from plancalls import errors


class Equal:
    """A thing that says of itself that it is equal to everything."""

    def __eq__(self, other):
        return True

    def __ne__(self, other):
        return False


def of_all_sorts():
    """Return things of many sorts; no two calls share a list or a dict."""
    return [
        None, True, False, 0, 1, -1, 10 ** 40, "", "a", "abcdefgh", "fixed", "A", "a b", "a\n", b"", b"a",
        [], ["a"], [1], (), ("a",), (1,), ("a", "b"), (1, "fixed"), ("a", "b", "c"), {}, {"a": "b"}, {1: 2},
        {None: None}, {("a", 1): [[]]}, set(), {"a"}, frozenset(), range(3), bytearray(b"a"), object(), int, str,
        len, NotImplemented, Ellipsis, ValueError("a"), Equal(), [[[[[[[[[[[[]]]]]]]]]]]], (x for x in "ab"),
    ]


def of_other_sorts(*sorts):
    """Return the things of many sorts that are of none of these sorts."""
    return [thing for thing in of_all_sorts() if not isinstance(thing, sorts)]


def error_of(call):
    """Return the name of the class and the fields of the error of the package that a call raises."""
    try:
        call()
    except errors.PlanError as error:
        return (error.__class__.__name__, *vars(error).values())
    raise AssertionError("no error was raised")


class EqualityCase(unittest.TestCase):
    """Asks for both signs, and for True and False themselves."""

    def assert_equal(self, one, other):
        self.assertIs(True, one == other)
        self.assertIs(False, one != other)

    def assert_unlike(self, one, other):
        self.assertIs(False, one == other)
        self.assertIs(True, one != other)
