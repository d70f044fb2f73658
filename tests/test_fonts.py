"""Fonts and their refusals: [15]."""

import unittest

from galleywork.errors import BadFont
from galleywork.fontcheck import check_font, good_triple
from galleywork.fonts import Font
from galleywork.glue import Glue
from helper import FONT, SIGNS, Case, told

NEEDED = tuple(row for row in SIGNS if row[0] not in "ab")


def with_signs(*more):
    """The told font f with some more signs, without kerns."""
    return told(FONT, signs=tuple(sorted(SIGNS + more)), kerns=())


class CheckTest(Case):

    def good(self, **changes):
        with self.subTest(changes):
            font = told(FONT, **changes)
            self.assertIs(self.answer(check_font, font), True)
            self.assertIsInstance(Font(font), Font)

    def bad(self, what, **changes):
        with self.subTest(changes):
            font = told(FONT, **changes)
            name = changes.get("name", "f")
            self.refused(BadFont(name, what), check_font, font)
            self.refused(BadFont(name, what), Font, font)

    def test_good(self):
        self.good()

    def test_name(self):
        for name in ("f", "plain", "abcdefghijkl", "z"):
            self.good(name=name)
        for name in ("", "abcdefghijklm", "F", "plAin", "f1", "a b", "a-b", " ", "f\n", "a.", "{", "`", "a\t"):
            self.bad("name", name=name)

    def test_size(self):
        flat = tuple((sign, width, 0, 0) for sign, width, _, _ in SIGNS)
        self.good(above=1000, below=1000)
        self.good(above=0, below=1, signs=flat)
        self.good(above=1, below=0, signs=flat)
        self.bad("size", above=0, below=0, signs=flat)
        self.bad("size", above=1001)
        self.bad("size", below=1001)
        self.bad("size", above=-1, below=5, signs=flat)
        self.bad("size", above=5, below=-1)

    def test_gap(self):
        for gap in ((0, 0, 0), (1000, 1000, 1000), (5, 0, 5), (0, 1000, 0), (1, 5, 0)):
            self.good(gap=gap)
            self.assertIs(self.answer(good_triple, gap), True)
        for gap in ((1001, 0, 0), (0, 1001, 0), (1000, 0, 1001), (-1, 0, 0), (0, -1, 0), (0, 0, -1), (5, 5, 6), (0, 0, 1),
                    (-1, 0, -1), (1001, 0, 1001)):
            self.bad("gap", gap=gap)
            self.assertIs(self.answer(good_triple, gap), False)

    def test_sign(self):
        for row in (
            ("c", 1, 0, 0), ("c", 1000, 5, 2), ("abcdefgh", 3, 4, 0), ("A", 3, 4, 0), ("|", 1, 1, 1), ("!", 1, 1, 1),
            ("-1", 1, 1, 1), ("ab.", 1, 1, 1),
        ):
            with self.subTest(row):
                self.assertIs(check_font(with_signs(row)), True)
        for row in (
            ("c", 0, 4, 0), ("c", -1, 4, 0), ("c", 1001, 4, 0), ("c", 3, -1, 0), ("c", 3, 6, 0), ("c", 3, 4, -1),
            ("c", 3, 4, 3), ("", 3, 4, 0), ("abcdefghi", 3, 4, 0), ("a b", 3, 4, 0), (" ", 3, 4, 0), ("{", 3, 4, 0),
            ("~", 3, 4, 0), ("a\\", 3, 4, 0), (chr(37), 3, 4, 0), ("a\n", 3, 4, 0), ("#", 1, 1, 1), ("_", 1, 1, 1),
            ("a", 3, 4, 0), ("0", 2, 4, 0),
        ):
            with self.subTest(row):
                self.refused(BadFont("f", "sign"), check_font, with_signs(row))

    def test_signs_ascend(self):
        self.bad("sign", signs=SIGNS[:-2] + (SIGNS[-1], SIGNS[-2]))
        self.bad("sign", signs=(SIGNS[1], SIGNS[0], *SIGNS[2:]))
        self.bad("sign", signs=SIGNS + (("b", 5, 4, 0),))
        self.bad("sign", signs=SIGNS + (("B", 4, 4, 0),))
        self.good(signs=SIGNS + (("ba", 4, 4, 0),))
        self.bad("sign", signs=SIGNS[:-1] + (("ba", 4, 4, 0), SIGNS[-1]))

    def test_missing(self):
        self.good(signs=NEEDED, kerns=())
        for left_out in range(len(NEEDED)):
            self.bad("missing", signs=NEEDED[:left_out] + NEEDED[left_out + 1:], kerns=())
        self.bad("missing", signs=(), kerns=())

    def test_kern(self):
        self.good(kerns=())
        self.good(kerns=(("a", "b", 1000),))
        self.good(kerns=(("a", "b", -1), ("b", "a", 0), ("b", "b", -2)))
        self.bad("kern", kerns=(("a", "b", 1001),))
        # a is 3 wide, b is 4 wide.
        self.bad("kern", kerns=(("a", "b", -2),))
        self.bad("kern", kerns=(("b", "a", -2),))
        self.bad("kern", kerns=(("b", "b", -3),))
        self.good(kerns=(("b", "b", -2),))
        self.bad("kern", kerns=(("a", "c", 0),))
        self.bad("kern", kerns=(("c", "a", 0),))
        self.bad("kern", kerns=(("a", "b", 0), ("a", "b", 1)))
        self.bad("kern", kerns=(("b", "a", 0), ("a", "b", 0)))
        self.bad("kern", kerns=(("a", "b", 0), ("a", "a", 0)))
        self.good(kerns=(("a", "a", 5), ("a", "b", 0)))
        self.bad("kern", kerns=(("a", "a", 0), ("", "b", 0)))

    def test_join(self):
        signs = SIGNS + (("ba", 4, 4, 0),)
        self.good(signs=signs, joins=(("a", "b", "ba"), ("b", "a", "ba"), ("ba", "a", "b")))
        self.good(joins=(("a", "b", "1"), ("b", "0", "b")))
        self.good(joins=(("a", "a", "b"), ("a", "b", "a")))
        self.bad("join", signs=signs, joins=(("a", "ba", "b"),))
        self.bad("join", joins=(("a", "b", "ba"),))
        self.bad("join", joins=(("c", "b", "a"),))
        self.bad("join", joins=(("a", "c", "a"),))
        self.bad("join", joins=(("a", "", "a"),))
        self.bad("join", joins=(("a", "b", "a"), ("a", "b", "b")))
        self.bad("join", joins=(("b", "a", "a"), ("a", "b", "a")))
        self.bad("join", joins=(("b", "b", "a"), ("b", "a", "a")))

    def test_the_order_of_the_rules(self):
        broken = (
            ("name", {"name": "F"}), ("size", {"above": 2000}), ("gap", {"gap": (0, 0, 1)}),
            ("sign", {"signs": SIGNS[::-1]}), ("missing", {"signs": SIGNS[1:]}), ("kern", {"kerns": (("a", "z", 0),)}),
            ("join", {"joins": (("a", "z", "a"),)}),
        )
        for k, (what, changes) in enumerate(broken):
            for _, later in broken[k + 1:]:
                self.bad(what, **{**later, **changes})

    def test_a_font_changes_nothing_that_it_was_told(self):
        font = told(FONT)
        Font(font)
        self.assertEqual(font, told(FONT))


class FontTest(Case):

    def setUp(self):
        signs = tuple(sorted(SIGNS + (("fi", 7, 5, 0), ("f", 3, 5, 1), ("i", 9, 3, 2))))
        kerns = (("a", "b", -1), ("b", "a", 6), ("f", "f", 4))
        joins = (("f", "i", "fi"), ("fi", "f", "a"))
        self.font = Font(("plain", 5, 2, (4, 3, 2), signs, kerns, joins))

    def test_fields(self):
        font = self.font
        self.assertEqual((font.name, font.above, font.below), ("plain", 5, 2))
        self.assertIsInstance(font.gap, Glue)
        self.assertEqual(font.gap.plain(), (4, 3, 2))

    def test_contains(self):
        for sign, expected in (("a", True), ("fi", True), ("-", True), ("9", True), ("c", False), ("ab", False), ("", False),
                               ("A", False), ("if", False)):
            with self.subTest(sign):
                self.assertIs(sign in self.font, expected)
                self.assertIs(sign not in self.font, not expected)

    def test_sizes(self):
        for sign, sizes in (("a", (3, 4, 0)), ("fi", (7, 5, 0)), ("f", (3, 5, 1)), ("i", (9, 3, 2)), ("-", (2, 4, 0))):
            self.assertEqual(self.answer(self.font.sizes, sign), sizes)

    def test_kern_of(self):
        for left, right, kern in (("a", "b", -1), ("b", "a", 6), ("f", "f", 4), ("a", "a", 0), ("b", "b", 0), ("fi", "a", 0)):
            self.assertEqual(self.font.kern_of(left, right), kern)

    def test_joined(self):
        for left, right, new in (("f", "i", "fi"), ("fi", "f", "a"), ("i", "f", None), ("f", "f", None), ("a", "b", None)):
            self.assertEqual(self.font.joined(left, right), new)

    def test_properties(self):
        self.assertEqual((self.font.leading, self.font.widest, self.font.kern_most), (7, 9, 6))
        for name in ("leading", "widest", "kern_most"):
            self.assertIsInstance(vars(Font)[name], property)

    def test_kern_most(self):
        for kerns, most in (((), 0), ((("a", "b", -1),), 0), ((("a", "b", 0),), 0), ((("a", "b", -1), ("b", "b", 3)), 3)):
            self.assertEqual(Font(told(FONT, kerns=kerns)).kern_most, most)

    def test_widest(self):
        self.assertEqual(Font(told(FONT)).widest, 4)
        self.assertEqual(Font(with_signs(("z", 1000, 0, 0))).widest, 1000)
        self.assertEqual(Font(with_signs(("!", 5, 0, 0))).widest, 5)
        self.assertEqual(Font(told(FONT, above=9, below=0)).leading, 9)


if __name__ == "__main__":
    unittest.main()
