"""Tokens and written forms: [3]."""

import re
import unittest

from galleywork.chars import LETTERS, WORD_CHARS
from galleywork.errors import BadText
from galleywork.tokens import SIZE_LIMIT, size_of, tokenize, written
from helper import Case, Dice, tokens_of

PERCENT = chr(37)


class TokenTest(Case):

    def test_example(self):
        self.assertEqual(self.answer(tokenize, "A \\-b\n\n{"), [
            ("word", "A", 1, 1), ("blank", " ", 1, 2), ("hyph", "\\-", 1, 3), ("word", "b", 1, 5),
            ("par", "\n\n", 1, 6), ("open", "{", 3, 1),
        ])

    def test_empty(self):
        self.assertEqual(self.answer(tokenize, ""), [])

    def test_all_word_characters(self):
        self.assertEqual(tokenize(WORD_CHARS), [("word", WORD_CHARS, 1, 1)])
        for char in WORD_CHARS:
            self.assertEqual(tokenize(char), [("word", char, 1, 1)])

    def test_all_letters(self):
        self.assertEqual(tokenize("\\" + LETTERS), [("name", LETTERS, 1, 1)])
        for char in LETTERS:
            self.assertEqual(tokenize("\\" + char), [("name", char, 1, 1)])

    def test_each_kind(self):
        for text, expected in (
            ("ab1", [("word", "ab1")]),
            ("!\"'()*+,-./:;<=>?@[]`|", [("word", "!\"'()*+,-./:;<=>?@[]`|")]),
            (" ", [("blank", " ")]),
            ("\\let", [("name", "let")]),
            ("\\aBz1", [("name", "aBz"), ("word", "1")]),
            ("\\a\\b", [("name", "a"), ("name", "b")]),
            ("\\-", [("hyph", "\\-")]),
            ("\\--", [("hyph", "\\-"), ("word", "-")]),
            ("\\\\", [("cut", "\\\\")]),
            ("\\\\\\-", [("cut", "\\\\"), ("hyph", "\\-")]),
            ("\\\\a", [("cut", "\\\\"), ("word", "a")]),
            ("{}$~&^_", [
                ("open", "{"), ("shut", "}"), ("dollar", "$"), ("tie", "~"), ("amp", "&"), ("up", "^"), ("down", "_"),
            ]),
            ("$$", [("dollar", "$"), ("dollar", "$")]),
            ("#12", [("param", "1"), ("word", "2")]),
            ("a#9", [("word", "a"), ("param", "9")]),
        ):
            with self.subTest(text):
                self.assertEqual(tokens_of(text), expected)

    def test_params_from_1_to_9(self):
        for digit in "123456789":
            self.assertEqual(tokenize("#" + digit), [("param", digit, 1, 1)])

    def test_runs_of_blanks(self):
        for run, token in (
            (" ", ("blank", " ")), ("    ", ("blank", " ")), ("\n", ("blank", " ")), ("  \n  ", ("blank", " ")),
            ("\n\n", ("par", "\n\n")), (" \n \n ", ("par", "\n\n")), ("\n\n\n\n", ("par", "\n\n")),
            ("\n  \n", ("par", "\n\n")),
        ):
            for ahead, behind in (("", ""), ("a", ""), ("", "b"), ("a", "b")):
                words = [[("word", word)] if word else [] for word in (ahead, behind)]
                with self.subTest((ahead, run, behind)):
                    self.assertEqual(tokens_of(ahead + run + behind), words[0] + [token] + words[1])

    def test_lines_and_columns(self):
        self.assertEqual(tokenize("ab\n c\n\n  \\x{}\n \n#1"), [
            ("word", "ab", 1, 1), ("blank", " ", 1, 3), ("word", "c", 2, 2), ("par", "\n\n", 2, 3),
            ("name", "x", 4, 3), ("open", "{", 4, 5), ("shut", "}", 4, 6), ("par", "\n\n", 4, 7),
            ("param", "1", 6, 1),
        ])
        self.assertEqual(tokenize("\n\na"), [("par", "\n\n", 1, 1), ("word", "a", 3, 1)])
        self.assertEqual(tokenize("\na \n"), [("blank", " ", 1, 1), ("word", "a", 2, 1), ("blank", " ", 2, 2)])

    def test_refusals(self):
        for text, line, column, what in (
            ("\t", 1, 1, "character"), ("ab\tc", 1, 3, "character"), ("a\n" + PERCENT, 2, 1, "character"),
            (" \t", 1, 2, "character"), ("\n\n \t", 3, 2, "character"), ("\\a" + PERCENT, 1, 3, "character"),
            ("\\", 1, 1, "escape"), ("a\n\\1", 2, 1, "escape"), ("ab\\ c", 1, 3, "escape"), ("\\{", 1, 1, "escape"),
            ("\\\t", 1, 1, "escape"), ("\\\n", 1, 1, "escape"), ("\\\\\\", 1, 3, "escape"), ("\\-\\", 1, 3, "escape"),
            ("\\_", 1, 1, "escape"), ("\\" + PERCENT, 1, 1, "escape"), ("\\#1", 1, 1, "escape"),
            ("#", 1, 1, "parameter"), ("#0", 1, 1, "parameter"), ("#a", 1, 1, "parameter"),
            ("# 1", 1, 1, "parameter"), ("##1", 1, 1, "parameter"), ("a\n\n#", 3, 1, "parameter"),
            ("#\t", 1, 1, "parameter"), ("#1#", 1, 3, "parameter"),
        ):
            with self.subTest(text):
                self.refused(BadText(line, column, what), tokenize, text)

    def test_first_bad_place(self):
        for text, column, what in (
            ("a#0\\1\t", 2, "parameter"), ("a\\1#0\t", 2, "escape"), ("a\t#0\\1", 2, "character"),
            ("\\a\\ \t", 3, "escape"), ("#1\t#0", 3, "character"),
        ):
            with self.subTest(text):
                self.refused(BadText(1, column, what), tokenize, text)

    def test_any_length(self):
        self.assertEqual(tokenize("a" * 20000), [("word", "a" * 20000, 1, 1)])
        tokens = tokenize("a\n" * 10000)
        self.assertEqual((len(tokens), tokens[-2], tokens[-1]), (
            20000, ("word", "a", 10000, 1), ("blank", " ", 10000, 2)))


class WrittenTest(Case):

    def test_size_limit(self):
        self.assertEqual(SIZE_LIMIT, 6000)

    def test_sizes(self):
        for token, size in (
            (("word", "ab1", 1, 1), 3), (("blank", " ", 1, 1), 1), (("par", "\n\n", 1, 1), 2),
            (("name", "let", 1, 1), 4), (("name", "x", 7, 9), 2), (("hyph", "\\-", 1, 1), 2),
            (("cut", "\\\\", 1, 1), 2), (("param", "4", 1, 1), 2), (("open", "{", 1, 1), 1), (("shut", "}", 1, 1), 1),
            (("dollar", "$", 1, 1), 1), (("tie", "~", 1, 1), 1), (("amp", "&", 1, 1), 1), (("up", "^", 1, 1), 1),
            (("down", "_", 1, 1), 1),
        ):
            with self.subTest(token):
                self.assertEqual(size_of(token), size)
                self.assertEqual(len(written([token])), size)

    def test_written(self):
        for text in (
            "", "a b", "a\n\nb", "\\x a", "\\x1", "\\x(a)", "\\x{a}", "\\x\\y", "\\-a", "\\\\a", "#1a", "{}$~&^_", "\\x #1",
            "\\let\\pair 2{(#1,#2)}",
        ):
            with self.subTest(text):
                self.assertEqual(self.answer(written, tokenize(text)), text)

    def test_a_word_directly_behind_a_name(self):
        name = ("name", "x", 1, 1)
        for word, expected in (
            ("a", "\\x a"), ("Zb", "\\x Zb"), ("1a", "\\x1a"), ("(a", "\\x(a"), (".", "\\x."), ("9", "\\x9"),
        ):
            with self.subTest(word):
                self.assertEqual(written([name, ("word", word, 1, 1)]), expected)
        self.assertEqual(written([name, ("blank", " ", 1, 1), ("word", "a", 1, 1)]), "\\x a")
        self.assertEqual(written([name, name, ("word", "a", 1, 1), ("word", "b", 1, 1)]), "\\x\\x ab")
        self.assertEqual(written([("hyph", "\\-", 1, 1), ("word", "a", 1, 1)]), "\\-a")
        self.assertEqual(written([name, ("open", "{", 1, 1), ("word", "a", 1, 1)]), "\\x{a")

    def test_the_size_counts_no_such_space(self):
        tokens = [("name", "x", 1, 1), ("word", "a", 1, 1)]
        self.assertEqual(sum(size_of(token) for token in tokens), len(written(tokens)) - 1)

    def test_written_form_of_a_text(self):
        dice = Dice(1)
        parts = ["a", "B", "1", ".", " ", "  ", "\n", "\n\n", "\\x", "\\ab", "\\-", "\\\\", "{", "}", "$", "~", "&", "^", "_", "#1"]
        for _ in range(400):
            text = "".join(dice.pick(parts) for _ in range(dice.below(12)))
            expected = re.sub("[ \n]+", lambda run: "\n\n" if run[0].count("\n") > 1 else " ", text)
            with self.subTest(text):
                tokens = tokenize(text)
                self.assertEqual(written(tokens), expected)
                self.assertEqual(sum(size_of(token) for token in tokens), len(expected))
                for kind, value, line, column in tokens:
                    rest = text.split("\n", line - 1)[-1][column - 1:]
                    self.assertTrue(rest.startswith(written([(kind, value, 1, 1)])) or rest[0] in " \n")


if __name__ == "__main__":
    unittest.main()
