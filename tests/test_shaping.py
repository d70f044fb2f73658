"""Shaping, widths and word boxes: [20]."""

import unittest

from galleywork.fonts import Font
from galleywork.shaping import shape, width_of, word_box
from helper import Case, Dice, told_font

LETTERS = {"a": 3, "b": 5, "c": 7, "f": 4, "i": 2, "l": 2}


def plain_shape(rules, letters):
    """Shaping by the words of the document, from a dict of joins."""
    pairs = []
    for letter in letters:
        if pairs and (pairs[-1][0], letter) in rules:
            sign, meant = pairs.pop()
            pairs.append((rules[sign, letter], meant + letter))
        else:
            pairs.append((letter, letter))
    return pairs


class ShapeTest(Case):

    def test_example(self):
        font = Font(told_font("f", {"a": 3, "f": 4, "i": 2, "fi": 5}, joins=(("f", "i", "fi"),)))
        self.assertEqual(self.answer(shape, font, "afi"), [("a", "a"), ("fi", "fi")])

    def test_without_joins(self):
        font = Font(told_font("f", LETTERS))
        for letters in ("", "a", "aa", "abcfi", "fi", "0-.9"):
            with self.subTest(letters):
                self.assertEqual(self.answer(shape, font, letters), [(letter, letter) for letter in letters])

    def test_joins_that_join_again(self):
        font = Font(told_font("f", {**LETTERS, "ff": 6, "ffi": 7, "fi": 5},
                              joins=(("f", "f", "ff"), ("ff", "i", "ffi"), ("f", "i", "fi"))))
        for letters, pairs in (
            ("fi", [("fi", "fi")]),
            ("ff", [("ff", "ff")]),
            ("ffi", [("ffi", "ffi")]),
            ("fff", [("ff", "ff"), ("f", "f")]),
            ("fffi", [("ff", "ff"), ("fi", "fi")]),
            ("ffff", [("ff", "ff"), ("ff", "ff")]),
            ("ffii", [("ffi", "ffi"), ("i", "i")]),
            ("affib", [("a", "a"), ("ffi", "ffi"), ("b", "b")]),
            ("if", [("i", "i"), ("f", "f")]),
        ):
            with self.subTest(letters):
                self.assertEqual(self.answer(shape, font, letters), pairs)

    def test_a_join_needs_the_sign_of_the_last_pair(self):
        # "fi" and "l" join, but "f" and "l" do not, nor do "i" and "l".
        font = Font(told_font("f", {**LETTERS, "fi": 5, "x": 6}, joins=(("f", "i", "fi"), ("fi", "l", "x"))))
        for letters, pairs in (
            ("fil", [("x", "fil")]), ("fl", [("f", "f"), ("l", "l")]), ("il", [("i", "i"), ("l", "l")]),
            ("fill", [("x", "fil"), ("l", "l")]),
        ):
            self.assertEqual(self.answer(shape, font, letters), pairs)
        # "f" and "l" join, but behind "fi" there is no "f" any more.
        font = Font(told_font("f", {**LETTERS, "fi": 5, "x": 6}, joins=(("f", "i", "fi"), ("f", "l", "x"),
                                                                        ("i", "l", "x"))))
        for letters, pairs in (
            ("fil", [("fi", "fi"), ("l", "l")]), ("fl", [("x", "fl")]), ("il", [("x", "il")]),
            ("afl", [("a", "a"), ("x", "fl")]),
        ):
            self.assertEqual(self.answer(shape, font, letters), pairs)

    def test_a_join_that_gives_a_letter(self):
        font = Font(told_font("f", LETTERS, joins=(("a", "a", "a"), ("b", "c", "f"), ("f", "i", "b"))))
        self.assertEqual(self.answer(shape, font, "aaaa"), [("a", "aaaa")])
        self.assertEqual(self.answer(shape, font, "bcici"), [("b", "bcici")])

    def test_long_words(self):
        font = Font(told_font("f", LETTERS, joins=(("a", "a", "a"),)))
        self.assertEqual(shape(font, "a" * 5000), [("a", "a" * 5000)])
        self.assertEqual(shape(font, "ab" * 1500), [("a", "a"), ("b", "b")] * 1500)
        self.assertEqual(width_of(font, ["b"] * 3000), 15000)
        self.assertEqual(word_box(font, "ab" * 1500)[1], 12000)

    def test_by_the_definition(self):
        dice = Dice(2)
        for _ in range(60):
            joins = {(dice.pick("abcfi"), dice.pick("abcfi")): dice.pick("abcfil") for _ in range(4)}
            font = Font(told_font("f", LETTERS, joins=[(*pair, new) for pair, new in joins.items()]))
            letters = "".join(dice.pick("abcfi") for _ in range(dice.below(12)))
            pairs = self.answer(shape, font, letters)
            self.assertEqual(pairs, plain_shape(joins, letters))
            self.assertEqual("".join(meant for _, meant in pairs), letters)


class WidthTest(Case):

    def setUp(self):
        self.font = Font(told_font("f", {**LETTERS, "ab": 9}, kerns=(("a", "b", -1), ("b", "a", 10), ("ab", "a", 4),
                                                                     ("b", "b", -2), ("a", "ab", 1)), joins=(("a", "b", "ab"),)))

    def test_width(self):
        for signs, width in (
            ([], 0), (["a"], 3), (["a", "c"], 10), (["a", "b"], 7), (["b", "a"], 18), (["a", "b", "a"], 20),
            (["b", "b", "b"], 11), (["ab"], 9), (["ab", "a"], 16), (["a", "ab", "a"], 20), (["ab", "c", "a"], 19),
        ):
            with self.subTest(signs):
                self.assertEqual(self.answer(width_of, self.font, signs), width)
                self.assertEqual(self.answer(width_of, self.font, tuple(signs)), width)

    def test_the_least_width(self):
        font = Font(told_font("f", {"a": 1, "b": 2}, kerns=(("b", "b", -1),)))
        self.assertEqual([width_of(font, ["b"] * k) for k in range(5)], [0, 2, 3, 4, 5])
        self.assertEqual(width_of(font, ["a"] * 4), 4)


class WordBoxTest(Case):

    def test_the_empty_word(self):
        font = Font(told_font("f", LETTERS))
        self.assertEqual(self.answer(word_box, font, ""), ("word", 0, 0, 0, ()))
        self.assertEqual(self.answer(word_box, font, "", "parted"), ("parted", 0, 0, 0, ()))

    def test_parts_stand_where_widths_and_kerns_end(self):
        font = Font(told_font("roman", {"a": (4, 6, 0), "b": (6, 9, 1), "c": (8, 2, 5), "bc": (10, 3, 3)},
                              kerns=(("a", "a", -2), ("a", "bc", 3), ("bc", "a", -1), ("c", "-", -1)),
                              joins=(("b", "c", "bc"),)))
        a = ("sign", 4, 6, 0, ("roman", "a", "a"))
        bc = ("sign", 10, 3, 3, ("roman", "bc", "bc"))
        c = ("sign", 8, 2, 5, ("roman", "c", "c"))
        hyphen = ("sign", 2, 4, 0, ("roman", "-", "-"))
        self.assertEqual(self.answer(word_box, font, "a"), ("word", 4, 6, 0, ((0, 0, a),)))
        self.assertEqual(self.answer(word_box, font, "aabca"),
                         ("word", 22, 6, 3, ((0, 0, a), (2, 0, a), (9, 0, bc), (18, 0, a))))
        self.assertEqual(self.answer(word_box, font, "c-", "parted"), ("parted", 9, 4, 5, ((0, 0, c), (7, 0, hyphen))))

    def test_kinds(self):
        font = Font(told_font("f", LETTERS))
        for kind in ("word", "parted"):
            self.assertEqual(word_box(font, "ab", kind)[0], kind)
            self.assertEqual(word_box(font, "ab", kind=kind)[0], kind)
        self.assertEqual(word_box(font, "ab"), word_box(font, "ab", "word"))
        self.assertEqual(word_box(font, "ab")[1:], word_box(font, "ab", "parted")[1:])

    def test_signs_lie_inside(self):
        dice = Dice(4)
        for _ in range(100):
            sizes = {char: (dice.below(6) + 2, dice.below(9), dice.below(9)) for char in "abc"}
            kerns = {(dice.pick("abc"), dice.pick("abc")): -1 for _ in range(3)}
            kerns[dice.pick("abc"), dice.pick("abc")] = 5
            font = Font(told_font("f", sizes, kerns=[(*pair, k) for pair, k in kerns.items()]))
            letters = "".join(dice.pick("abc") for _ in range(dice.below(7)))
            kind, w, h, d, parts = self.answer(word_box, font, letters)
            self.assertEqual("".join(part[2][4][2] for part in parts), letters)
            self.assertEqual(w, width_of(font, list(letters)))
            self.assertEqual(h, max([0] + [sizes[char][1] for char in letters]))
            self.assertEqual(d, max([0] + [sizes[char][2] for char in letters]))
            for k, (x, y, box) in enumerate(parts):
                self.assertEqual(y, 0)
                self.assertEqual(x + box[1], width_of(font, letters[:k + 1]))
                self.assertTrue(0 <= x and x + box[1] <= w)


if __name__ == "__main__":
    unittest.main()
