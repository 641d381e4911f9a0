"""Names (point 3)."""

import unittest

from roundminutes import names
from roundminutes.names import is_name

FIRST = "abcdefghijklmnopqrstuvwxyz"
LATER = "abcdefghijklmnopqrstuvwxyz0123456789"

# All of ASCII, and letters and digits that Python's own tests would let pass.
CHARACTERS = [chr(code) for code in range(128)] + ["\u00e4", "\u00df", "\u00b2", "\u0663", "\uff41", "\uff11", "\u03b1",
                                                   "\u0131", "\u2028", "\U0001d41a"]


class NamesTest(unittest.TestCase):

    def test_is_name_is_defined_in_the_file(self):
        self.assertEqual(is_name.__module__, "roundminutes.names")
        self.assertIs(names.is_name, is_name)

    def test_names(self):
        for text in ["a", "z", "m7", "a0", "z9", "abc", "a1b2c3d4", "abcdefgh", "zzzzzzzz", "a9999999"]:
            with self.subTest(text):
                self.assertIs(is_name(text), True)

    def test_no_names(self):
        for text in ["", " ", "0", "9a", "A", "aB", "Ab", "a b", " a", "a ", "a_b", "_a", "a-b", "a.b", "a\n", "\na",
                     "a\t", "a=1", "a+1", "ABCDEFGH"]:
            with self.subTest(text):
                self.assertIs(is_name(text), False)

    def test_each_length(self):
        for length in range(20):
            with self.subTest(length):
                self.assertIs(is_name("a" * length), 1 <= length <= 8)
                self.assertIs(is_name("a" + "0" * length), length <= 7)

    def test_nine_characters_and_more(self):
        self.assertIs(is_name("abcdefghi"), False)
        self.assertIs(is_name("a" * 1000), False)

    def test_each_character_at_each_place_of_each_length(self):
        for length in range(1, 9):
            for place in range(length):
                for character in CHARACTERS:
                    text = "k" * place + character + "k" * (length - place - 1)
                    wanted = character in (LATER if place else FIRST)
                    with self.subTest(text):
                        self.assertIs(is_name(text), wanted)


if __name__ == "__main__":
    unittest.main()
