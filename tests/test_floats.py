"""Floats: [42]."""

import unittest

from galleywork.errors import NoSign, TooWide
from galleywork.floats import float_row
from galleywork.solids import solids_of
from galleywork.works import Works
from helper import Case, blocks_of, demo_sheet, rich_sheet
from texts import TextMaker


class FloatTest(Case):

    def row(self, works, text, number=4):
        block, = blocks_of(text)
        box, marks, record = self.answer(float_row, works, block, number)
        self.assertEqual([type(item) for item in (box, marks, record)], [tuple] * 3)
        return box, marks, record

    def paragraph(self, works, inlines):
        style = works.sheet.style_of("caption")
        solids, joints, _ = solids_of(style, inlines)
        return works.paragraph("caption", style.measure, solids, joints, 4)

    def test_no_solids(self):
        works = Works(demo_sheet())
        record = ("caption", 4, ((0, 1),), (((0, 1), 0),))
        for text, height, marks in (
            ("\\float{9}{}", 9, ()), ("\\float{1}{~}", 1, ()), ("\\float{10000}{\\mark{a}}", 10000, ("a",)),
            ("\\float{9}{\\mark{b}~\\strong{\\mark{a}\\label{x}}\\mark{b}}", 9, ("b", "a", "b")),
        ):
            box = ("float", 20, 0, height, ((0, -height, ("bar", 20, height, 0, ())),))
            self.assertEqual(self.row(works, text), (box, marks, record))

    def test_one_line(self):
        works = Works(demo_sheet({"caption": {"left": 2, "measure": 17}}))
        line = ("line", 17, 5, 2, ((0, 0, works.word("f", "ab", "word")),))
        caption = ("caption", 20, 5, 2, ((2, 0, line),))
        box = ("float", 20, 0, 16, ((0, -9, ("bar", 20, 9, 0, ())), (0, -14, caption)))
        self.assertEqual(self.row(works, "\\float{9}{ab\\mark{q}}", 7), (box, ("q",), ("caption", 7, ((0, 1), (2, 1)), (((0, 1), 100), ((2, 1), 0)))))

    def test_several_lines(self):
        works = Works(demo_sheet({"caption": {"left": 3, "measure": 12, "indent": 1, "align": "right"}}))
        text = "\\float{9}{ab ab\\mark{x} ab $aa$\\mark{y} b\\mark{z}}"
        box, marks, record = self.row(works, text)
        found = self.paragraph(works, blocks_of(text)[0][3])
        self.assertEqual(found.ends, (2, 4, 6, 8))
        self.assertEqual(box[:4], ("float", 20, 0, 9 + 4 * 7))
        self.assertEqual(box[4][0], (0, -9, ("bar", 20, 9, 0, ())))
        self.assertEqual(box[4][1:], tuple((0, -14 - 7 * k, ("caption", 20, 5, 2, ((3, 0, line),))) for k, line in enumerate(found.boxes)))
        self.assertEqual(marks, ("x", "y", "z"))
        self.assertEqual(record, ("caption", 4, found.way, found.paper))

    def test_lines_of_different_heights(self):
        works = Works(rich_sheet())
        text = "\\float{5}{one $\\over{a}{\\over{b}{c}}$ end end end end \\strong{$x^{2}$} table table one office $\\root{\\root{x}}$}"
        box, _, _ = self.row(works, text)
        found = self.paragraph(works, blocks_of(text)[0][3])
        self.assertGreater(len({line[2:4] for line in found.boxes}), 1)
        y = 5
        for (dx, dy, caption), line in zip(box[4][1:], found.boxes):
            self.assertEqual((dx, dy, caption), (0, -y - line[2], ("caption", 60, line[2], line[3], ((6, 0, line),))))
            y += line[2] + line[3]
        self.assertEqual(box[3], y)

    def test_errors(self):
        works = Works(demo_sheet())
        for text, error in (("ax", NoSign("x", 9)), ("a$aaaaaaa$", TooWide(9)), ("$aaaaaaa$ x", NoSign("x", 9)), ("\\strong{$x$}", NoSign("x", 9))):
            block, = blocks_of("\\float{10000}{" + text + "}")
            self.refused(error, float_row, works, block, 9)

    def test_random_floats(self):
        works = Works(rich_sheet())
        maker = TextMaker(32)
        for _ in range(40):
            height = 1 + maker.dice.below(99)
            caption = maker.words(False).replace("\\label", "\\mark").replace("\\ref", "\\mark")
            text = "\\float{%d}{%s}" % (height, caption)
            box, marks, record = self.row(works, text)
            inlines = blocks_of(text)[0][3]
            found = self.paragraph(works, inlines)
            self.assertEqual(record, ("caption", 4, found.way, found.paper))
            self.assertEqual(list(marks), [word for _, word in solids_of(works.sheet.style_of("caption"), inlines)[2]])
            self.assertEqual(box[3], height + sum(line[2] + line[3] for line in found.boxes))


if __name__ == "__main__":
    unittest.main()
