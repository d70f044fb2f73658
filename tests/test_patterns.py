"""Patterns and exceptions: [16]."""

import itertools
import re
import unittest

from galleywork.errors import BadPattern
from galleywork.patterns import Patterns
from helper import Case, Dice


def slow_points(patterns, exceptions, word):
    """The places of a word, worked out gap by gap."""
    small = word.lower()
    for exception in exceptions:
        if exception.replace("-", "") == small:
            return [len(ahead.replace("-", "")) for ahead in heads(exception)]
    shown = "." + small + "."
    best = [0] * (len(shown) + 1)
    for pattern in patterns:
        chars = re.sub("[0-9]", "", pattern)
        for begin in range(len(shown) - len(chars) + 1):
            if shown[begin:begin + len(chars)] == chars:
                at = begin
                for char in pattern:
                    if char.isdigit():
                        best[at] = max(best[at], int(char))
                    else:
                        at += 1
    return [k for k in range(len(small)) if best[k + 1] in (1, 3, 5, 7, 9) and 2 <= k <= len(small) - 3]


def heads(exception):
    """The parts of an exception ahead of each of its hyphens."""
    return [exception[:at] for at, char in enumerate(exception) if char == "-"]


class FormTest(Case):

    def test_good_patterns(self):
        for pattern in ("a", ".a", "a.", ".a.", "1a", "a1", ".1a", "a1.", "a1b", "1a2b3", ".1a2b3.", "abc", "0a", "a0b9",
                        "a" * 20, "." + "a" * 18 + ".", "1a" * 10, ".9z9."):
            with self.subTest(pattern):
                self.assertIsInstance(Patterns((pattern,), ()), Patterns)

    def test_bad_patterns(self):
        for pattern in ("", ".", "..", "1", "1.", ".1", ".1.", "12a", "a12", "a12b", "A", "aB", "a.b", "..a", "a..", "1.a", "a.1",
                        "a b", "a-b", " a", "a ", "a\n", "a\t", "a'", "{", "`", "a" * 21, "." + "a" * 19 + ".",
                        "1a" * 10 + "1", "a" * 20 + "."):
            with self.subTest(pattern):
                self.refused(BadPattern(pattern), Patterns, (pattern,), ())
                self.refused(BadPattern(pattern), Patterns, ("ok", pattern, ""), ("a-b",))

    def test_doubled_patterns(self):
        self.refused(BadPattern("a1b"), Patterns, ("a1b", "ab", "a1b"), ())
        self.refused(BadPattern("b"), Patterns, ("a", "b", "b", "a"), ())
        self.assertIsInstance(Patterns(("a1b", "ab", "a0b", "a2b", ".a1b", "a1b."), ()), Patterns)

    def test_good_exceptions(self):
        for exception in ("a", "ab", "a-b", "a-b-c", "ab-cd", "a" * 60, "a-" * 29 + "ab"):
            with self.subTest(exception):
                self.assertIsInstance(Patterns((), (exception,)), Patterns)

    def test_bad_exceptions(self):
        for exception in ("", "-", "-a", "a-", "a--b", "A", "aB", "a1", "a.b", ".a", "a b", " ", "a\n", "a" * 61, "a-" * 30 + "a",
                          "a-b-", "--"):
            with self.subTest(exception):
                self.refused(BadPattern(exception), Patterns, (), (exception,))
                self.refused(BadPattern(exception), Patterns, ("a",), ("ok", exception, ""))

    def test_doubled_exceptions(self):
        self.refused(BadPattern("ab-c"), Patterns, (), ("ab-c", "ab-c"))
        self.refused(BadPattern("abc"), Patterns, (), ("ab-c", "abc"))
        self.refused(BadPattern("a-bc"), Patterns, (), ("x", "abc", "a-bc", "x"))

    def test_patterns_ahead_of_exceptions(self):
        self.refused(BadPattern("1"), Patterns, ("a", "1"), ("-",))
        self.refused(BadPattern("-"), Patterns, ("a", "b"), ("-",))
        self.assertIsInstance(Patterns(("ab",), ("ab",)), Patterns)


class PointTest(Case):

    def check(self, patterns, exceptions, *rows):
        made = Patterns(patterns, exceptions)
        for word, points in rows:
            with self.subTest((patterns, exceptions, word)):
                self.assertEqual(self.answer(made.points, word), points)
                self.assertEqual(slow_points(patterns, exceptions, word), points)

    def test_example(self):
        self.check(("a2b1a", "b1a"), ("ba-ba",), ("ababab", [2]), ("Baba", [2]), ("baab", []))

    def test_nothing(self):
        self.check((), (), ("a", []), ("abcdefgh", []), ("Z" * 100, []))

    def test_bounds(self):
        self.check(("1a",), (), ("a", []), ("aa", []), ("aaa", []), ("aaaa", []), ("aaaaa", [2]), ("aaaaaa", [2, 3]),
                   ("aaaaaaa", [2, 3, 4]))
        self.check(("a1",), (), ("aaaaa", [2]), ("aaaa", []))

    def test_capital_letters(self):
        self.check(("b1c",), ("ca-b",), ("aBCde", [2]), ("ABCDE", [2]), ("abcde", [2]), ("CAB", [2]), ("caB", [2]))

    def test_exceptions_override(self):
        self.check(("1a",), ("aaaaaa", "a-aaaa-a-a"), ("aaaaaa", []), ("aaaaaaa", [1, 5, 6]), ("aaaaa", [2]),
                   ("aaaaaaaa", [2, 3, 4, 5]))

    def test_an_exception_is_a_whole_word(self):
        self.check(("a1b",), ("a-b",), ("ab", [1]), ("abab", []), ("ababa", []), ("ababab", [3]))

    def test_greatest_digit_wins(self):
        self.check(("b1c", "b2c"), (), ("abcde", []))
        self.check(("b2c", "b3c"), (), ("abcde", [2]))
        self.check(("b9c", "ab8c"), (), ("abcde", [2]))
        self.check(("b4c", "ab5c", "b3cd"), (), ("abcde", [2]))
        self.check(("b5c", "ab6c"), (), ("abcde", []), ("bbcde", [2]))
        self.check(("b1c", "b0c"), (), ("abcde", [2]))

    def test_odd_and_even(self):
        for digit in "0123456789":
            self.check((f"b{digit}c",), (), ("abcde", [2] if digit in "13579" else []))

    def test_ends(self):
        self.check((".ab1c",), (), ("abcde", [2]), ("aabcde", []), ("abcabcde", [2]))
        self.check(("c1de.",), (), ("abcde", []), ("abcdef", []), ("aabcde", []))
        self.check(("b1cde.",), (), ("abcde", [2]), ("abcdef", []), ("abcdeabcde", [7]))
        self.check((".ab1cde.",), (), ("abcde", [2]), ("abcdef", []), ("xabcde", []))
        self.check((".1a", "1b."), (), ("aaaaab", []))
        self.check(("e1.",), (), ("abcde", []))

    def test_a_digit_behind_the_last_letter(self):
        self.check(("b1",), (), ("abcde", [2]), ("bbbbbb", [2, 3]))
        self.check((".ab1",), (), ("abcde", [2]), ("aabab", []))

    def test_overlapping(self):
        self.check(("a1a",), (), ("aaaaaaa", [2, 3, 4]))
        self.check(("a1a2a",), (), ("aaaaaaa", []))
        self.check(("a2a1a",), (), ("aaaaaaaa", []), ("aaabbb", [2]), ("baaabb", [3]))

    def test_a_pattern_longer_than_the_word(self):
        self.check(("ab1cdef", "b1cdefgh"), (), ("abcde", []), ("abcdef", [2]))

    def test_long_words(self):
        self.check(("1a" * 10,), (), ("a" * 300, list(range(2, 298))))
        self.assertEqual(Patterns(("ab1c",), ()).points("abc" * 2000), list(range(2, 5998, 3)))

    def test_lists_handed_in_stay(self):
        patterns, exceptions = ("a1b", "b1a"), ("ab-ab",)
        made = Patterns(patterns, exceptions)
        made.points("abab").append(9)
        self.assertEqual(made.points("abab"), [2])
        self.assertEqual((patterns, exceptions), (("a1b", "b1a"), ("ab-ab",)))

    def test_by_another_way(self):
        dice = Dice(5)
        words = ["".join(letters) for size in range(1, 7) for letters in itertools.product("ab", repeat=size)]
        for _ in range(60):
            patterns = {}
            for _ in range(dice.below(6)):
                inner = "".join(dice.pick(["", "", "1", "2", "3"]) + dice.pick("ab") for _ in range(1 + dice.below(3)))
                pattern = dice.pick(["", "", "."]) + inner + dice.pick(["", "1"]) + dice.pick(["", "", "."])
                patterns[pattern] = True
            exceptions = {}
            for _ in range(dice.below(3)):
                exception = "-".join(dice.pick(["a", "b", "ab", "ba"]) for _ in range(1 + dice.below(3)))
                exceptions.setdefault(exception.replace("-", ""), exception)
            patterns, exceptions = tuple(patterns), tuple(exceptions.values())
            made = Patterns(patterns, exceptions)
            for word in words:
                self.assertEqual(made.points(word), slow_points(patterns, exceptions, word), (patterns, exceptions, word))


if __name__ == "__main__":
    unittest.main()
