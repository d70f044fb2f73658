"""Placed lines: [35]."""

import unittest

from galleywork.evened import even_gaps, gap_widths, line_box
from galleywork.formboxes import formula_box, note_mark
from galleywork.glue import Glue
from galleywork.linetask import LineTask
from galleywork.shaping import word_box
from helper import Case, Dice, row_of, strip_of, style_of, told_font, works_of

LETTERS = {"a": (4, 3, 1), "b": (5, 4, 0), "c": (6, 2, 2)}


def glues_of(*rows):
    return [Glue(*row) for row in rows]


class EvenTest(Case):

    def evened(self, glues, slack, stretching):
        widths = self.answer(even_gaps, glues, slack, stretching)
        self.assertIs(type(widths), list)
        return widths

    def test_example(self):
        glues = glues_of((2, 1, 1), (2, 2, 1))
        self.assertEqual(self.evened(glues, 4, True), [3, 5])
        self.assertEqual(self.evened(glues, 4, False), [2, 2])
        self.assertEqual(self.evened(glues, -1, True), [2, 1])

    def test_no_glues(self):
        for slack in (0, 5, 100):
            for stretching in (True, False):
                self.assertEqual(self.evened([], slack, stretching), [])

    def test_no_slack(self):
        glues = glues_of((2, 1, 1), (9, 2, 1), (0, 0, 0))
        for stretching in (True, False):
            self.assertEqual(self.evened(glues, 0, stretching), [2, 9, 0])

    def test_stretched(self):
        for rows, slack, widths in (
            (((5, 1, 0),), 7, [12]),
            (((5, 1, 0), (5, 1, 0)), 7, [8, 9]),
            (((5, 1, 0), (5, 1, 0), (5, 1, 0)), 7, [7, 7, 8]),
            (((5, 1, 0), (5, 1, 0), (5, 1, 0)), 8, [7, 8, 8]),
            (((5, 1, 0), (5, 0, 3), (5, 1, 0)), 7, [8, 5, 9]),
            (((5, 0, 0), (5, 3, 3), (5, 0, 0)), 7, [5, 12, 5]),
            (((5, 0, 1), (6, 0, 2)), 7, [5, 6]),
            (((0, 3, 0), (0, 1, 0), (0, 3, 0)), 10, [4, 1, 5]),
            (((1, 1000, 0), (2, 1, 0)), 1, [1, 3]),
            (((1, 1, 0), (2, 1000, 0)), 1, [1, 3]),
            (((1, 1, 0), (2, 2, 0)), 3, [2, 4]),
        ):
            with self.subTest((rows, slack)):
                self.assertEqual(self.evened(glues_of(*rows), slack, True), widths)
                self.assertEqual(self.evened(glues_of(*rows), slack, False), [row[0] for row in rows])

    def test_shrunk(self):
        for rows, slack, widths in (
            (((5, 9, 3),), -1, [4]),
            (((5, 9, 3),), -3, [2]),
            (((5, 9, 1), (5, 9, 1)), -1, [5, 4]),
            (((5, 9, 1), (5, 9, 1)), -2, [4, 4]),
            (((5, 9, 2), (5, 9, 2), (5, 9, 2)), -1, [5, 5, 4]),
            (((5, 9, 2), (5, 9, 2), (5, 9, 2)), -4, [4, 4, 3]),
            (((5, 9, 0), (5, 9, 2), (5, 9, 0)), -2, [5, 3, 5]),
            (((5, 0, 5), (5, 0, 0), (1, 0, 1)), -6, [0, 5, 0]),
            (((5, 0, 5), (5, 0, 0), (1, 0, 1)), -5, [1, 5, 0]),
            (((5, 0, 5), (5, 0, 0), (1, 0, 1)), -1, [5, 5, 0]),
        ):
            for stretching in (True, False):
                with self.subTest((rows, slack, stretching)):
                    self.assertEqual(self.evened(glues_of(*rows), slack, stretching), widths)

    def test_great_numbers(self):
        glues = glues_of((1, 10 ** 30, 0), (2, 2 * 10 ** 30, 0))
        self.assertEqual(self.evened(glues, 3 * 10 ** 50, True), [10 ** 50 + 1, 2 * 10 ** 50 + 2])

    def test_by_the_definition(self):
        dice = Dice(51)
        for _ in range(500):
            rows = []
            for _ in range(dice.below(6) + 1):
                natural = dice.below(9)
                rows.append((natural, dice.below(5), dice.below(natural + 1)))
            stretch, shrink = sum(row[1] for row in rows), sum(row[2] for row in rows)
            slack = dice.below(30) if dice.below(2) else -dice.below(shrink + 1)
            expected = []
            for k, (natural, _, _) in enumerate(rows):
                upto = [sum(row[at] for row in rows[:k + 1]) for at in (1, 2)]
                before = [sum(row[at] for row in rows[:k]) for at in (1, 2)]
                if slack > 0 and stretch > 0:
                    natural += slack * upto[0] // stretch - slack * before[0] // stretch
                elif slack < 0:
                    natural += -(-slack * upto[1] // shrink) + -slack * before[1] // shrink
                expected.append(natural)
            widths = self.evened(glues_of(*rows), slack, True)
            self.assertEqual(widths, expected)
            if slack < 0 or stretch > 0:
                self.assertEqual(sum(widths), sum(row[0] for row in rows) + slack)
            for width, row in zip(widths, rows):
                self.assertGreaterEqual(width, row[0] - row[2])


class GapsTest(Case):

    def setUp(self):
        self.works = works_of(told_font("f", LETTERS, gap=(4, 3, 2)), told_font("s", LETTERS, gap=(8, 0, 1)))

    def strip(self, text, measure, **changes):
        return strip_of(self.works, style_of(strong="s", **changes), text, measure)

    def test_full_lines(self):
        strip = self.strip("a a~a a", 30)
        # The line to 3 has the natural length 12 + 8, the whole one 16 + 12.
        self.assertEqual(self.answer(gap_widths, strip, 0, 3), [9, 9])
        self.assertEqual(self.answer(gap_widths, strip, 0, 4), [4, 4, 4])
        self.assertEqual(self.answer(gap_widths, strip, 1, 3), [22])
        self.assertEqual(self.answer(gap_widths, strip, 0, 1), [])
        for measure, widths in ((28, [4, 4, 4]), (27, [4, 4, 3]), (26, [4, 3, 3]), (25, [3, 3, 3]), (23, [3, 2, 2]), (22, [2, 2, 2])):
            self.assertEqual(self.answer(gap_widths, self.strip("a a~a a", measure), 0, 4), widths)
            self.assertEqual(self.answer(gap_widths, self.strip("a a~a a\\\\a", measure), 0, 4), widths)

    def test_ends_of_the_kinds_3_and_4_are_not_stretched(self):
        strip = self.strip("a a\\\\a a b", 100)
        self.assertEqual(self.answer(gap_widths, strip, 0, 2), [4])
        self.assertEqual(self.answer(gap_widths, strip, 2, 5), [4, 4])
        self.assertEqual(self.answer(gap_widths, strip, 2, 4), [92])

    def test_ends_of_the_kinds_1_and_2_are_stretched(self):
        strip = self.strip("a a\\-b a", 30)
        # The hyphen is 2 wide.
        self.assertEqual(self.answer(gap_widths, strip, 0, 2), [20])
        strip = self.strip("a ~" + "b" * 5, 20)
        self.assertEqual((strip.kind(2), self.answer(gap_widths, strip, 0, 2)), (2, [11]))

    def test_the_indent_counts(self):
        strip = self.strip("a a b a b b", 30, indent=6)
        self.assertEqual(self.answer(gap_widths, strip, 0, 2), [16])
        self.assertEqual(self.answer(gap_widths, strip, 2, 4), [21])

    def test_other_alignments(self):
        for align in ("left", "centre", "right"):
            strip = self.strip("a a\\strong{ a~}a b", 60, align=align)
            for i, j, widths in ((0, 2, [4]), (0, 3, [4, 8]), (0, 4, [4, 8, 8]), (0, 5, [4, 8, 8, 4]), (2, 4, [8])):
                self.assertEqual(self.answer(gap_widths, strip, i, j), widths)

    def test_gaps_of_two_fonts(self):
        strip = self.strip("a a\\strong{ a~}a b", 50)
        self.assertEqual(self.answer(gap_widths, strip, 0, 4), [4 + 14, 8, 8])
        strip = self.strip("a a\\strong{ a~}a b", 35)
        self.assertEqual(self.answer(gap_widths, strip, 0, 4), [4 + -1 + 1, 8, 7])


class BoxTest(Case):

    def setUp(self):
        self.works = works_of(
            told_font("f", LETTERS, above=10, below=3, gap=(4, 3, 2)),
            told_font("s", {**LETTERS, "a": (4, 15, 8)}, gap=(8, 0, 1)),
            told_font("m", {"x": (7, 9, 5)}), font="m", axis=2, up=6)

    def strip(self, text, measure, **changes):
        return strip_of(self.works, style_of(strong="s", **changes), text, measure)

    def word(self, font, letters, kind="word"):
        return word_box(self.works.book.font_of(font), letters, kind)

    def test_each_alignment(self):
        ab, c, a = self.word("f", "ab"), self.word("f", "c"), self.word("f", "a")
        # The first line has 9 + 4 + 6, the second one 4 + 4 + 9.
        for align, indent, first, second in (
            ("full", 0, (0, 24), (0, 21)), ("full", 5, (5, 24), (0, 21)), ("left", 0, (0, 13), (0, 8)), ("left", 5, (5, 18), (0, 8)),
            ("centre", 0, (5, 18), (6, 14)), ("centre", 5, (8, 21), (6, 14)), ("right", 0, (11, 24), (13, 21)),
            ("right", 5, (11, 24), (13, 21)),
        ):
            strip = self.strip("ab c a ab b", 30, align=align, indent=indent)
            with self.subTest((align, indent)):
                self.assertEqual(self.answer(line_box, strip, 0, 3), ("line", 30, 10, 3, ((first[0], 0, ab), (first[1], 0, c))))
                self.assertEqual(self.answer(line_box, strip, 3, 6), ("line", 30, 10, 3, ((second[0], 0, a), (second[1], 0, ab))))

    def test_an_odd_rest_in_the_centre(self):
        strip = self.strip("a", 9, align="centre")
        self.assertEqual(line_box(strip, 0, 1), ("line", 9, 10, 3, ((2, 0, self.word("f", "a")),)))
        strip = self.strip("a", 9, align="centre", indent=2)
        self.assertEqual(line_box(strip, 0, 1), ("line", 9, 10, 3, ((3, 0, self.word("f", "a")),)))

    def test_the_last_line(self):
        strip = self.strip("ab c a ab", 40)
        self.assertEqual(line_box(strip, 3, 6), ("line", 40, 10, 3, ((0, 0, self.word("f", "a")), (8, 0, self.word("f", "ab")))))

    def test_shrunk(self):
        strip = self.strip("ab c a ab", 18)
        self.assertEqual(line_box(strip, 0, 3), ("line", 18, 10, 3, ((0, 0, self.word("f", "ab")), (12, 0, self.word("f", "c")))))
        strip = self.strip("ab c", 17)
        self.assertEqual(line_box(strip, 0, 3), ("line", 17, 10, 3, ((0, 0, self.word("f", "ab")), (11, 0, self.word("f", "c")))))

    def test_each_gap_has_its_own_width(self):
        a = self.word("f", "a")
        strip = self.strip("a a~a a a b", 42)
        self.assertEqual(gap_widths(strip, 0, 5), [5, 6, 5, 6])
        strip = self.strip("a a~a a a b", 43)
        self.assertEqual(gap_widths(strip, 0, 5), [5, 6, 6, 6])
        self.assertEqual(line_box(strip, 0, 5)[4], ((0, 0, a), (9, 0, a), (19, 0, a), (29, 0, a), (39, 0, a)))
        strip = self.strip("a\\strong{ }a a\\strong{ }a b", 49, align="left")
        self.assertEqual(line_box(strip, 0, 4)[4], ((0, 0, a), (12, 0, a), (20, 0, a), (32, 0, a)))

    def test_hyphens(self):
        strip = self.strip("c ab\\-c c", 30)
        box = self.answer(line_box, strip, 0, 3)
        self.assertEqual(box, ("line", 30, 10, 3, ((0, 0, self.word("f", "c")), (19, 0, self.word("f", "ab-", "parted")))))
        strip = self.strip("c ab-c c", 30)
        box = self.answer(line_box, strip, 0, 4)
        self.assertEqual(box, ("line", 30, 10, 3, ((0, 0, self.word("f", "c")), (19, 0, self.word("f", "ab-")))))

    def test_pieces_without_a_gap_between(self):
        strip = self.strip("a$x$\\note{a}b\\strong{c}", 100)
        formula, mark = formula_box(self.works.book, row_of("x"), 0), note_mark(self.works.book, 1)
        self.assertEqual(mark[1:4], (2, 10, 0))
        self.assertEqual(self.answer(line_box, strip, 0, 5), ("line", 100, 10, 5, (
            (0, 0, self.word("f", "a")), (4, 0, formula), (11, 0, mark), (13, 0, self.word("f", "b")), (18, 0, self.word("s", "c")))))

    def test_heights_and_depths(self):
        strip = self.strip("a \\strong{a} b $x$ $\\root{x}^{x}$", 1000, align="left")
        for i, j, h, d in ((0, 1, 10, 3), (0, 2, 15, 8), (1, 2, 15, 8), (2, 3, 10, 3), (2, 4, 10, 5), (3, 4, 10, 5), (0, 4, 15, 8)):
            with self.subTest((i, j)):
                self.assertEqual(line_box(strip, i, j)[:4], ("line", 1000, h, d))
        box = formula_box(self.works.book, strip.solids[4][1], 0)
        self.assertGreater(box[2], 15)
        self.assertEqual(line_box(strip, 3, 5)[2:4], (box[2], max(5, box[3])))

    def test_the_font_of_the_style_counts(self):
        strip = self.strip("\\strong{b}", 100, font="s")
        self.assertEqual(line_box(strip, 0, 1)[2:4], (20, 10))
        strip = self.strip("\\strong{b}", 100)
        self.assertEqual(line_box(strip, 0, 1)[2:4], (10, 3))

    def test_lines_that_fit_stay_inside(self):
        dice = Dice(52)
        for _ in range(80):
            text = "".join(dice.pick(("a", "b", "c", "$x$", " ", " ", "~", "\\-", "\\\\", "\\strong{a b}")) for _ in range(9)) + "a"
            align = dice.pick(("full", "left", "centre", "right"))
            strip = self.strip(text, 12 + dice.below(20), align=align, indent=dice.below(5))
            task = LineTask(strip)
            for i in (0, *strip.places()):
                for j, _, _ in task.lines_from(i):
                    kind, w, h, d, parts = line_box(strip, i, j)
                    self.assertEqual((kind, w), ("line", strip.measure))
                    slack = strip.measure - strip.glue(i, j).natural
                    x = (strip.style.indent if i == 0 else 0) + {"full": 0, "left": 0, "centre": slack // 2, "right": slack}[align]
                    gaps = gap_widths(strip, i, j)
                    shown = []
                    for piece in strip.content(i, j):
                        if piece[0] == "gap":
                            x += gaps.pop(0)
                        else:
                            box = strip.works.formula(piece[1]) if piece[0] == "formula" else strip.works.word(
                                piece[1], piece[2], "parted" if piece[3] else "word")
                            shown.append((x, 0, box))
                            x += box[1]
                    self.assertEqual(parts, tuple(shown))
                    self.assertLessEqual(x, w)
                    if align == "full" and slack < 0 or align == "right":
                        self.assertEqual(x, w)
                    self.assertEqual((h, d), (max([10] + [part[2][2] for part in parts]), max([3] + [part[2][3] for part in parts])))


if __name__ == "__main__":
    unittest.main()
