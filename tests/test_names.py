"""[1.1]: small and great names."""

import string
import unittest

from everytick.programs import is_great, is_small
from tests.samples import ODD_VALUES, nested_value

WORDS = (
    "and bool continue else end every false fby if is main merge mod node not or pre sort state states then true "
    "unless until var when xor"
).split()


class SmallNamesTest(unittest.TestCase):
    def test_letters_and_digits(self):
        for name in ("x", "a", "z", "abc", "x0", "a9b8", "half", "zzzzzzzz", "a1234567"):
            self.assertIs(is_small(name), True, name)
        for letter in string.ascii_lowercase:
            self.assertIs(is_small(letter), True)
            self.assertIs(is_small("q" + letter), True)
        for digit in string.digits:
            self.assertIs(is_small("q" + digit), True)

    def test_lengths(self):
        self.assertIs(is_small("a"), True)
        self.assertIs(is_small("abcdefgh"), True)
        self.assertIs(is_small(""), False)
        self.assertIs(is_small("abcdefghi"), False)
        self.assertIs(is_small("a" * 1000), False)

    def test_it_begins_with_a_letter(self):
        for name in ("0", "1x", "9abc", "12"):
            self.assertIs(is_small(name), False, name)

    def test_no_other_signs(self):
        for sign in "ABCXYZ_-+ .:,()\n\t'\"\u00e9\u00df\u0430\u0663\u00b2":
            for name in (sign, "a" + sign, sign + "a", "a" + sign + "b"):
                self.assertIs(is_small(name), False, repr(name))

    def test_reserved_words(self):
        self.assertEqual(len(WORDS), 27)
        for word in WORDS:
            self.assertIs(is_small(word), False, word)
            self.assertEqual(is_small(word + "0"), len(word) < 8, word)
            self.assertIs(is_small("q" + word[1:]), True, word)
        for word in ("for", "const", "call", "eq", "arrow", "less", "call", "enum", "type", "def", "none", "in"):
            self.assertIs(is_small(word), True, word)

    def test_other_values(self):
        for value in ODD_VALUES:
            if value != "x":
                self.assertIs(is_small(value), value == "x", repr(value))
        self.assertIs(is_small(nested_value(100)), False)
        self.assertIs(is_small(("x",)), False)
        self.assertIs(is_small(["x"]), False)


class GreatNamesTest(unittest.TestCase):
    def test_letters_and_digits(self):
        for name in ("X", "A", "Z", "Abc", "X0", "A9B8c", "ALLCAPS", "Zzzzzzzz", "A1234567", "True", "End", "NODE"):
            self.assertIs(is_great(name), True, name)
        for letter in string.ascii_uppercase:
            self.assertIs(is_great(letter), True)
        for letter in string.ascii_letters + string.digits:
            self.assertIs(is_great("Q" + letter), True)

    def test_lengths(self):
        self.assertIs(is_great("A"), True)
        self.assertIs(is_great("Abcdefgh"), True)
        self.assertIs(is_great(""), False)
        self.assertIs(is_great("Abcdefghi"), False)

    def test_it_begins_with_a_capital_letter(self):
        for name in ("x", "aB", "0A", "9"):
            self.assertIs(is_great(name), False, name)

    def test_no_other_signs(self):
        for sign in "_-+ .:,()\n\t\u00c9\u00df\u0410\u0663\u00b2":
            for name in (sign, "A" + sign, sign + "A", "A" + sign + "B"):
                self.assertIs(is_great(name), False, repr(name))

    def test_other_values(self):
        for value in ODD_VALUES:
            if value != "X":
                self.assertIs(is_great(value), False, repr(value))
        self.assertIs(is_great(nested_value(100)), False)
        self.assertIs(is_great(("X",)), False)
        self.assertIs(is_great(["X"]), False)
