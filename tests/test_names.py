"""Names, promise [4]."""

import string
import unittest

from soleinstances.names import is_constructor, is_name
from tests.helping import NO_NAMES


class NamesTest(unittest.TestCase):

    def test_lengths(self):
        for name in ["a", "z", "x", "show", "abcdefgh", "zzzzzzzz"]:
            self.assertIs(is_name(name), True, name)
            self.assertIs(is_constructor(name), False, name)
        for name in ["A", "Z", "Xx", "Int", "Abcdefgh", "Zzzzzzzz"]:
            self.assertIs(is_constructor(name), True, name)
            self.assertIs(is_name(name), False, name)

    def neither(self, value):
        self.assertIs(is_name(value), False, repr(value))
        self.assertIs(is_constructor(value), False, repr(value))

    def test_too_long_and_empty(self):
        for value in ["", "abcdefghi", "Abcdefghi", "a" * 100000, "A" + "a" * 100000]:
            self.neither(value)

    def test_letters_of_the_other_kind(self):
        for value in ["iNT", "INT", "IN", "InT", "InTt", "aB", "aBc", "AB"]:
            self.neither(value)

    def test_every_letter(self):
        for letter in string.ascii_lowercase:
            self.assertIs(is_name(letter), True, letter)
            self.assertIs(is_name("a" + letter), True, letter)
            self.assertIs(is_constructor("A" + letter), True, letter)
        for letter in string.ascii_uppercase:
            self.assertIs(is_constructor(letter), True, letter)
            self.assertIs(is_constructor(letter + "a"), True, letter)

    def test_every_other_character(self):
        for number in list(range(0x250)) + [0x3b1, 0x430, 0x1d00, 0xff21, 0xff41, 0xfb01, 0xd800, 0x1d41a]:
            sign = chr(number)
            if sign in string.ascii_letters:
                continue
            for value in [sign, "a" + sign, sign + "a", "A" + sign, sign + "A", "Aa" + sign, "a" + sign + "a"]:
                self.neither(value)

    def test_blanks_and_line_feeds(self):
        for value in ["x\n", "Int\n", "\nx", "x ", " x", "Int ", " Int", "a b", "A b", "x\r", "x\0", "x\t"]:
            self.neither(value)

    def test_terms_are_no_names(self):
        for value in ["List(x)", "List()", "x,y", "(x)"]:
            self.neither(value)

    def test_values_that_are_no_strings(self):
        for value in NO_NAMES:
            self.neither(value)

    def test_argument_by_name(self):
        self.assertIs(is_name(value="x"), True)
        self.assertIs(is_constructor(value="Int"), True)


if __name__ == "__main__":
    unittest.main()
