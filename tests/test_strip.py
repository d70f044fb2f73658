"""Strips: [30], [31], [32]."""

import unittest

from galleywork.content import pieces_glue, pieces_of
from galleywork.glue import Glue
from galleywork.places import place_kinds
from galleywork.solids import solids_of
from galleywork.strip import Strip
from helper import Case, Dice, inlines_of, row_of, strip_of, style_of, told_font, works_of

LETTERS = {char: 2 for char in "abcdxyz"}
X = ("formula", row_of("x"))


class StripTest(Case):

    def setUp(self):
        self.works = works_of(told_font("f", LETTERS, gap=(3, 2, 1)), told_font("s", LETTERS, gap=(30, 20, 10)), patterns=("1c",))

    def test_fields(self):
        style = style_of(measure=100)
        solids, joints, _ = solids_of(style, inlines_of("ab~c $x$"))
        strip = Strip(self.works, style, 42, solids, joints)
        self.assertIs(strip.works, self.works)
        self.assertIs(strip.style, style)
        self.assertEqual((strip.measure, strip.solids, strip.joints, strip.count), (42, solids, joints, 4))

    def test_no_solids(self):
        strip = Strip(self.works, style_of(), 18, (), ())
        self.assertEqual((strip.count, strip.kind(0), strip.places()), (0, None, ()))

    def test_kinds_and_places(self):
        for text, measure in (("a", 1), ("ab", 1), ("ab", 100), ("a b\\-c\\\\d-x~$x$", 100), ("a b\\-c\\\\d-x~$x$", 3), ("aacaaa", 100)):
            strip = strip_of(self.works, style_of(indent=1), text, measure)
            kinds = place_kinds(self.works, strip.style, measure, strip.solids, strip.joints)
            self.assertEqual(tuple(self.answer(strip.kind, k) for k in range(strip.count + 1)), kinds)
            places = self.answer(strip.places)
            self.assertIs(type(places), tuple)
            self.assertEqual(places, tuple(k for k, kind in enumerate(kinds) if kind is not None))
        self.assertEqual(strip_of(self.works, style_of(), "a b\\-c\\\\d-x~$x$", 100).places(), (1, 2, 3, 5, 7))

    def test_a_hyphen_is_put(self):
        strip = strip_of(self.works, style_of(), "aacaaa", 100)
        self.assertEqual(self.answer(strip.content, 0, 2), [("word", "f", "aa-", True)])
        self.assertEqual(self.answer(strip.content, 2, 6), [("word", "f", "caaa", False)])
        self.assertEqual(self.answer(strip.content, 1, 2), [("word", "f", "a-", True)])
        self.assertEqual(self.answer(strip.content, 0, 3), [("word", "f", "aac", False)])
        strip = strip_of(self.works, style_of(), "a\\-b", 100)
        self.assertEqual(self.answer(strip.content, 0, 1), [("word", "f", "a-", True)])

    def test_no_hyphen_is_put(self):
        strip = strip_of(self.works, style_of(), "a-b", 100)
        self.assertEqual(strip.kind(2), 1)
        self.assertEqual(self.answer(strip.content, 0, 2), [("word", "f", "a-", False)])
        strip = strip_of(self.works, style_of(), "a-\\-b", 100)
        self.assertEqual((strip.kind(2), strip.content(0, 2)), (1, [("word", "f", "a-", False)]))
        # Nor where a chunk is too wide, at a gap, at a cut, and at the end.
        for text, j, kind in (("ab", 1, 2), ("a b", 1, 0), ("a\\\\b", 1, 3), ("a", 1, 4)):
            strip = strip_of(self.works, style_of(), text, 3)
            self.assertEqual((strip.kind(j), strip.content(0, j)), (kind, [("word", "f", "a", False)]))
        strip = strip_of(self.works, style_of(), "a~b$x$", 3)
        self.assertEqual([strip.kind(k) for k in range(4)], [None, 2, 2, 4])
        self.assertEqual(strip.content(0, 2), [("word", "f", "a", False), ("gap", "f"), ("word", "f", "b", False)])

    def test_hyphens_in_two_fonts(self):
        strip = strip_of(self.works, style_of(font="f", strong="s"), "\\strong{a}\\-b", 100)
        self.assertEqual(strip.content(0, 1), [("word", "s", "a-", True)])
        strip = strip_of(self.works, style_of(font="f", strong="s"), "aa\\strong{caaa}", 100)
        self.assertEqual((strip.kind(2), strip.content(0, 2)), (1, [("word", "f", "aa-", True)]))

    def test_glue(self):
        strip = strip_of(self.works, style_of(indent=5, strong="s"), "ab a\\strong{ $x$~c}\\-d", 1000)
        for i, j, numbers in (
            (0, 1, (7, 0, 0)), (0, 2, (9, 0, 0)), (0, 3, (14, 2, 1)), (1, 3, (7, 2, 1)), (2, 3, (2, 0, 0)),
            (0, 4, (46, 22, 11)), (0, 5, (80, 42, 21)), (4, 5, (4, 0, 0)), (0, 6, (80, 42, 21)), (3, 5, (36, 20, 10)),
            (3, 6, (36, 20, 10)), (5, 6, (2, 0, 0)),
        ):
            with self.subTest((i, j)):
                found = strip.glue(i, j)
                self.assertIsInstance(found, Glue)
                self.assertEqual(found.plain(), numbers)
                self.assertEqual(strip.glue(i, j).plain(), numbers)

    def test_the_indent_in_the_first_line_alone(self):
        strip = strip_of(self.works, style_of(indent=7), "ab cd", 100)
        self.assertEqual([strip.glue(0, 2).natural, strip.glue(1, 2).natural, strip.glue(2, 4).natural], [11, 2, 4])

    def test_by_the_definition(self):
        dice = Dice(21)
        for _ in range(60):
            text = "".join(dice.pick(("a", "c", "d", "ab-c", "$x$", " ", " ", "~", "\\-", "\\\\", "\\strong{c d}")) for _ in range(8)) + "a"
            strip = strip_of(self.works, style_of(indent=2, strong="s"), text, dice.below(20) + 3)
            for i in range(strip.count):
                for j in range(i + 1, strip.count + 1):
                    hyphen = strip.kind(j) == 1 and strip.solids[j - 1][2] != "-"
                    pieces = pieces_of(strip.solids, strip.joints, i, j, hyphen)
                    self.assertEqual(strip.content(i, j), pieces)
                    glue = pieces_glue(self.works, pieces).plain()
                    indent = 2 if i == 0 else 0
                    self.assertEqual(strip.glue(i, j).plain(), (glue[0] + indent, glue[1], glue[2]))


if __name__ == "__main__":
    unittest.main()
