"""Setting a paragraph: [36]."""

import unittest

from galleywork.errors import NoSign, TooWide
from galleywork.evened import line_box
from galleywork.judging import judge
from galleywork.linetask import LineTask
from galleywork.paragraphs import Paragraph, set_paragraph
from galleywork.quicklines import QuickLineTask
from galleywork.solids import solids_of
from galleywork.strip import Strip
from galleywork.ways import solve
from helper import Case, Dice, inlines_of, row_of, strip_of, style_of, told_font, works_of

LETTERS = {char: 2 for char in "abcdx"}


class ParagraphTest(Case):

    def setUp(self):
        self.works = works_of(told_font("f", LETTERS), told_font("s", {"a": 2, "b": 2, "y": 2}), told_font("m", {"x": 2, "+": 2, "z": 2}),
                              font="m", patterns=("1c",))

    def set(self, text, measure=20, **changes):
        strip = strip_of(self.works, style_of(strong="s", **changes), text, measure)
        found = self.answer(set_paragraph, self.works, strip.style, measure, strip.solids, strip.joints, 7)
        self.assertIsInstance(found, Paragraph)
        self.assertEqual([type(part) for part in (found.way, found.paper, found.ends, found.boxes)], [tuple] * 4)
        return found

    def refused_text(self, error, text, measure=20, **changes):
        style = style_of(strong="s", **changes)
        solids, joints, _ = solids_of(style, inlines_of(text))
        self.refused(error, set_paragraph, self.works, style, measure, solids, joints, error.block)

    def test_fields(self):
        paragraph = Paragraph((1,), (2,), (3,), (4,))
        self.assertEqual((paragraph.way, paragraph.paper, paragraph.ends, paragraph.boxes), ((1,), (2,), (3,), (4,)))
        self.assertEqual(sorted(vars(paragraph)), ["boxes", "ends", "paper", "way"])

    def test_no_solids(self):
        for changes in ({}, {"align": "left"}, {"indent": 4}):
            found = self.set("", **changes)
            self.assertEqual((found.way, found.paper, found.ends, found.boxes), (((0, 1),), (((0, 1), 0),), (), ()))

    def test_one_line(self):
        found = self.set("ab a")
        strip = strip_of(self.works, style_of(strong="s"), "ab a", 20)
        self.assertEqual(found.way, ((0, 1), (3, 1)))
        self.assertEqual(found.ends, (3,))
        self.assertEqual(found.boxes, (line_box(strip, 0, 3),))
        self.assertEqual(found.paper[0], ((0, 1), 100))

    def test_several_lines(self):
        for text, measure, changes in (
            ("ab a cd abcd a b ab cd d c b a", 20, {}), ("ab a cd abcd a b ab cd d c b a", 20, {"align": "right", "indent": 3}),
            ("ab\\\\c\\\\d ab", 12, {}), ("aacaaaaacaaa b $x$\\note{a} \\strong{ab a}ab", 14, {"indent": 2}), ("ab~ab~ab~ab", 9, {}),
        ):
            strip = strip_of(self.works, style_of(strong="s", **changes), text, measure)
            way, paper = solve(LineTask(strip))
            found = self.set(text, measure, **changes)
            self.assertEqual((found.way, found.paper), (way, paper))
            self.assertEqual(found.ends, tuple(k for k, _ in way[1:]))
            self.assertEqual(found.ends[-1], strip.count)
            self.assertEqual(found.boxes, tuple(line_box(strip, i, j) for i, j in zip((0, *found.ends), found.ends)))
            for task in (LineTask(strip), QuickLineTask(strip)):
                self.assertIs(judge(task, found.way, found.paper), True)

    def test_no_sign_of_a_letter(self):
        for text, letter in (("y", "y"), ("ab!y", "!"), ("a \\strong{c}", "c"), ("a\\strong{y}y", "y"), ("a\\strong{ycb}", "c"), ("A", "A")):
            with self.subTest(text):
                self.refused_text(NoSign(letter, 4), text)
        self.assertEqual(self.set("\\strong{aby}a").ends, (4,))

    def test_no_sign_of_a_formula(self):
        for text, letter in (("a$y$", "y"), ("$x+a$", "a"), ("$x^{\\over{z}{b}}$", "b"), ("a\\strong{$a$}", "a")):
            with self.subTest(text):
                self.refused_text(NoSign(letter, 2), text)
        self.assertEqual(self.set("$x+z$a").ends, (2,))

    def test_formulas_are_looked_at_at_size_0(self):
        works = works_of(told_font("f", {"a": 2, "x": 2}), told_font("g", {"a": 2, "y": 2}), smaller="g")
        for text, letter in (("$x^y$", None), ("$y$", "y"), ("$x_x$", "x"), ("$x^{y_y}$", None), ("$\\over{y}{a}$", None)):
            solids, joints, _ = solids_of(style_of(), inlines_of(text))
            args = (works, style_of(), 20, solids, joints, 6)
            if letter is None:
                self.assertEqual(set_paragraph(*args).ends, (1,))
            else:
                self.refused(NoSign(letter, 6), set_paragraph, *args)

    def test_the_order_of_the_solids(self):
        for text, letter in (("y$a$", "y"), ("$a$y", "a"), ("ab$x$$c$!", "c"), ("\\strong{c}$a$", "c"), ("$xa$$b$", "a")):
            self.refused_text(NoSign(letter, 3), text)

    def test_the_note_itself_is_not_looked_at(self):
        self.assertEqual(self.set("a\\note{y!$a$}").ends, (2,))

    def test_a_formula_that_is_too_wide(self):
        # Each item of the formula is 2 wide, with 1 on each side of the operator.
        for measure, indent in ((8, 0), (13, 5)):
            self.assertEqual(self.set("$x+x$", measure, indent=indent).ends, (1,))
            self.refused_text(TooWide(9), "$x+x$", measure - 1, indent=indent)
            self.refused_text(TooWide(9), "ab $x$ $x+x$", measure - 1, indent=indent)
            self.refused_text(TooWide(9), "ab \\strong{$x+x$}", measure - 1, indent=indent)

    def test_a_mark_that_is_too_wide(self):
        style = style_of(strong="s", indent=3)
        for n, width in ((1, 2), (12, 4), (750, 6), (123456789, 18)):
            for measure, found in ((width + 3, True), (width + 2, False), (width + 9, True)):
                args = (self.works, style, measure, (("note", n),), (), 5)
                if found:
                    self.assertEqual(set_paragraph(*args).ends, (1,))
                else:
                    self.refused(TooWide(5), set_paragraph, *args)

    def test_no_sign_ahead_of_too_wide(self):
        self.refused_text(NoSign("y", 1), "$x+x$y", 6)
        self.refused_text(NoSign("a", 1), "$x+x$ b $a$", 6)
        self.refused_text(TooWide(1), "$x+x$b", 6)
        self.refused_text(NoSign("a", 1), "$xxxxxxxxxxxxa$", 6)

    def test_the_measure_is_the_one_that_is_passed(self):
        style = style_of(measure=1000, strong="s")
        solids, joints, _ = solids_of(style, inlines_of("ab ab ab ab"))
        found = set_paragraph(self.works, style, 10, solids, joints, 1)
        self.assertEqual([box[1] for box in found.boxes], [10, 10])
        self.assertEqual(found.ends, (4, 8))

    def test_lists_of_lines_follow_one_another(self):
        dice = Dice(61)
        for _ in range(100):
            text = "".join(dice.pick(("a", "ab", "abcd", "$x$", "\\note{a}", " ", " ", "~", "\\-", "\\\\", "\\strong{a b}")) for _ in range(15)) + "a"
            measure, indent = 8 + dice.below(20), dice.below(4)
            align = dice.pick(("full", "left", "centre", "right"))
            strip = strip_of(self.works, style_of(strong="s", align=align, indent=indent), text, measure)
            found = set_paragraph(self.works, strip.style, measure, strip.solids, strip.joints, 1)
            self.assertEqual(list(found.ends), sorted(set(found.ends)))
            self.assertEqual(found.ends[-1], strip.count)
            self.assertEqual(len(found.boxes), len(found.ends))
            self.assertEqual((found.way, found.paper), solve(LineTask(strip)))
            self.assertEqual(found.boxes, tuple(line_box(strip, i, j) for i, j in zip((0, *found.ends), found.ends)))

    def test_there_is_always_a_way(self):
        # 2 * widest is the measure less the indent: two letters, or one and a hyphen, just fit.
        for text in ("abcdabcdabcd", "ab~cd~ab", "a\\-b\\-c\\-d", "$x$a$x$a", "aacaaaaacaaa", "a-b-c-d"):
            found = self.set(text, 4, indent=0)
            self.assertLessEqual(max(box[1] for box in found.boxes), 4)
            found = self.set(text, 9, indent=5, align="centre")
            self.assertEqual(found.ends[-1], len(found.ends and solids_of(style_of(strong="s"), inlines_of(text))[0]))

    def test_a_long_paragraph(self):
        text = " ".join(("ab", "abcd", "a", "abc")[k % 4] for k in range(1500))
        strip = strip_of(self.works, style_of(strong="s"), text, 60)
        found = set_paragraph(self.works, strip.style, 60, strip.solids, strip.joints, 1)
        self.assertEqual(found.ends[-1], strip.count)
        self.assertTrue(judge(QuickLineTask(strip), found.way, found.paper))

    def test_a_row_of_formulas(self):
        self.assertEqual(self.set("$x$", 20).boxes[0][4][0][2], self.works.formula(row_of("x")))
        self.assertIsInstance(strip_of(self.works, style_of(), "a"), Strip)


if __name__ == "__main__":
    unittest.main()
