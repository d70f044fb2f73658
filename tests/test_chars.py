"""Characters: [3], and the kinds of [22]."""

import string
import unittest

from galleywork.chars import (
    DIGITS, LETTERS, SPECIAL, WORD_CHARS, is_digit, is_letter, is_word_char, sign_kind,
)
from helper import Case

VISIBLE = [chr(code) for code in range(33, 127) if chr(code) != chr(37)]
SPECIAL_ONES = "\\{}$~#&^_"


class CharTest(Case):

    def test_each_character_once(self):
        for chars, expected in (
            (LETTERS, string.ascii_letters),
            (DIGITS, "0123456789"),
            (SPECIAL, SPECIAL_ONES),
            (WORD_CHARS, [char for char in VISIBLE if char not in SPECIAL_ONES]),
        ):
            self.assertIsInstance(chars, str)
            self.assertEqual(sorted(chars), sorted(expected))

    def test_numbers_of_characters(self):
        self.assertEqual((len(LETTERS), len(DIGITS), len(SPECIAL), len(WORD_CHARS)), (52, 10, 9, 84))

    def test_questions(self):
        for code in range(127):
            char = chr(code)
            with self.subTest(char):
                self.assertIs(is_letter(char), char in string.ascii_letters)
                self.assertIs(is_digit(char), char in string.digits)
                self.assertIs(is_word_char(char), char in VISIBLE and char not in SPECIAL_ONES)

    def test_tab_percent_and_blanks_are_no_word_characters(self):
        for char in ("\t", chr(37), " ", "\n", chr(127)):
            self.assertIs(is_word_char(char), False)

    def test_kinds(self):
        kinds = {}
        for kind, chars in (("oper", "+-*/"), ("rel", "=<>"), ("open", "(["), ("shut", ")]"), ("comma", ",;")):
            for char in chars:
                kinds[char] = kind
        for char in WORD_CHARS:
            with self.subTest(char):
                self.assertEqual(sign_kind(char), kinds.get(char, "plain"))


if __name__ == "__main__":
    unittest.main()
