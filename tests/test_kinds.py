import unittest

from plancalls.kinds import KINDS, as_free, freer, is_integer, is_kind, is_name
from things import of_all_sorts, of_other_sorts

# The four kinds, told again: a test that reads KINDS would not see another order there.
ORDER = ("fixed", "stable", "changing", "effect")


class Integers(unittest.TestCase):
    def test_integers_of_any_size(self):
        for number in [0, 1, -1, 2, 255, -256, 10 ** 39, -10 ** 40, 10 ** 2000, -10 ** 2000]:
            self.assertIs(True, is_integer(number))

    def test_true_and_false_are_none(self):
        self.assertIs(False, is_integer(True))
        self.assertIs(False, is_integer(False))

    def test_other_things_are_none(self):
        for thing in [*of_other_sorts(int), "1", b"1", (1,), [1]]:
            with self.subTest(thing=thing):
                self.assertIs(False, is_integer(thing))


class Names(unittest.TestCase):
    def test_one_to_eight_letters(self):
        for name in ["a", "z", "az", "abcdefg", "abcdefgh", "zzzzzzzz", "fixed", "same", "in"]:
            with self.subTest(name):
                self.assertIs(True, is_name(name))

    def test_none_and_nine_letters(self):
        for text in ["", "abcdefghi", "a" * 100000]:
            with self.subTest(text[:10]):
                self.assertIs(False, is_name(text))

    def test_signs_that_are_no_letters_from_a_to_z(self):
        signs = ["A", "Z", "0", "9", "_", " ", "\n", "\t", "\0", "`", "{", "-", ".", "\xe4", "\xdf", "\xaa", "\u0430",
                 "\uff41", "\u0131", "\U0001d41a", "\ud800", "a\u0301"]
        for sign in signs:
            for text in [sign, "a" + sign, sign + "a", "a" + sign + "b", "abcdefg" + sign]:
                with self.subTest(text=ascii(text)):
                    self.assertIs(False, is_name(text))

    def test_other_things_are_none(self):
        for thing in of_other_sorts(str):
            with self.subTest(thing=thing):
                self.assertIs(False, is_name(thing))
        for thing in [b"abc", ["a", "b"], ("a",), {"a": 1}]:
            with self.subTest(thing=thing):
                self.assertIs(False, is_name(thing))


class Kinds(unittest.TestCase):
    def test_the_kinds_from_the_most_bound_one(self):
        self.assertIsInstance(KINDS, tuple)
        self.assertEqual(ORDER, KINDS)

    def test_just_the_four_are_kinds(self):
        for kind in ORDER:
            self.assertIs(True, is_kind(kind))
        for text in ["", "f", "fixe", "fixedd", "Fixed", "FIXED", " fixed", "free", "never", "fixed stable"]:
            with self.subTest(text):
                self.assertIs(False, is_kind(text))

    def test_other_things_are_none(self):
        for thing in [*of_all_sorts(), b"fixed", ["fixed"], ("fixed",), KINDS]:
            if not isinstance(thing, str):
                with self.subTest(thing=thing):
                    self.assertIs(False, is_kind(thing))

    def test_which_is_freer(self):
        for i, one in enumerate(ORDER):
            for j, other in enumerate(ORDER):
                with self.subTest(one=one, other=other):
                    self.assertIs(i > j, freer(one, other))
                    self.assertIs(i >= j, as_free(one, other))


if __name__ == "__main__":
    unittest.main()
