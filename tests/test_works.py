"""Works objects: [38], and the lines of [30] to [37] with a real works object."""

import unittest

from galleywork.content import pieces_glue, pieces_of
from galleywork.displays import DisplayTask, set_display
from galleywork.errors import NoSign, TooWide
from galleywork.evened import line_box
from galleywork.formboxes import formula_box, note_mark
from galleywork.formread import read_formula
from galleywork.judging import judge
from galleywork.linetask import LineTask
from galleywork.paragraphs import Paragraph, set_paragraph
from galleywork.places import place_kinds
from galleywork.quicklines import QuickLineTask
from galleywork.shaping import word_box
from galleywork.solids import solids_of
from galleywork.strip import Strip
from galleywork.tokens import tokenize
from galleywork.ways import solve
from galleywork.works import Works
from helper import Case, StandIn, blocks_of, demo_sheet, inlines_of, laid_open, rich_sheet, row_of
from texts import TextMaker


def formula_of(text):
    tokens = tokenize(text)
    return read_formula(tokens, 0, len(tokens))


class WorksTest(Case):

    def setUp(self):
        self.sheet = rich_sheet()
        self.works = Works(self.sheet)

    def solids(self, name, text):
        solids, joints, _ = solids_of(self.sheet.style_of(name), inlines_of(text) if text else ())
        return solids, joints

    def test_fields(self):
        self.assertIs(self.works.sheet, self.sheet)
        self.assertIs(self.works.book, self.sheet.book)

    def test_words(self):
        for font, letters, kind in (("f", "office", "word"), ("s", "office", "word"), ("f", "at-", "parted"), ("n", "ab", "word"), ("f", "", "word")):
            box = self.answer(self.works.word, font, letters, kind)
            self.assertEqual(box, word_box(self.sheet.book.font_of(font), letters, kind))
            self.assertEqual(box[0], kind)
        self.assertEqual([part[2][4] for part in self.works.word("f", "office", "word")[4]],
                         [("f", "o", "o"), ("f", "ffi", "ffi"), ("f", "c", "c"), ("f", "e", "e")])

    def test_formulas(self):
        for text in ("x", "", "a+b", "x^2_1", "\\over{a}{b}", "\\fence{[)}{\\root{x}}", "\\grid{a & b \\\\ c & }"):
            row = formula_of(text)
            self.assertEqual(self.answer(self.works.formula, row), formula_box(self.sheet.book, row, 0))

    def test_marks(self):
        for n in (1, 9, 10, 750, 123456789):
            self.assertEqual(self.answer(self.works.mark, n), note_mark(self.sheet.book, n))

    def test_paragraphs(self):
        text = "An office \\strong{of} $x^2$ tables\\note{a} and a-b\\\\banana end"
        for name, measure in (("par", 56), ("par", 30), ("par", 1000), ("head", 58), ("cell", 20), ("quote", 40), ("back", 40), ("note", 25)):
            solids, joints = self.solids(name, text)
            found = self.answer(self.works.paragraph, name, measure, solids, joints, 3)
            self.assertIsInstance(found, Paragraph)
            self.assertEqual(laid_open(found), laid_open(set_paragraph(
                StandIn(self.sheet.book), self.sheet.style_of(name), measure, solids, joints, 3)))
            self.assertEqual({box[1] for box in found.boxes}, {measure})

    def test_the_style_by_its_name(self):
        text = "a an office at the end"
        found = {name: self.works.paragraph(name, 50, *self.solids(name, text), 1).boxes for name in ("par", "head", "quote", "back", "item")}
        for name, boxes in found.items():
            style = self.sheet.style_of(name)
            self.assertEqual(boxes[0][2:4], (self.sheet.book.font_of(style.font).above, self.sheet.book.font_of(style.font).below))
            if style.align in ("full", "left"):
                self.assertEqual(boxes[0][4][0][0], style.indent)
        self.assertGreater(found["quote"][0][4][0][0], 0)

    def test_no_solids(self):
        found = self.answer(self.works.paragraph, "caption", 40, (), (), 9)
        self.assertEqual((found.way, found.paper, found.ends, found.boxes), (((0, 1),), (((0, 1), 0),), (), ()))

    def test_errors_of_paragraphs(self):
        works = Works(demo_sheet())
        for text, error in (("abc", NoSign("c", 4)), ("a$x$", NoSign("x", 4)), ("a$aaaaaaaaaaaa$", TooWide(4)), ("$aaaaaaaaaaaa$c", NoSign("c", 4))):
            solids, joints, _ = solids_of(works.sheet.style_of("quote"), inlines_of(text))
            self.refused(error, works.paragraph, "quote", 18, solids, joints, 4)
        solids, joints, _ = solids_of(works.sheet.style_of("par"), inlines_of("$aab$"))
        # 10 wide, and a par has an indent of 2.
        self.assertEqual(len(works.paragraph("par", 12, solids, joints, 1).boxes), 1)
        self.refused(TooWide(1), works.paragraph, "par", 11, solids, joints, 1)
        self.assertEqual(len(works.paragraph("quote", 10, solids, joints, 1).boxes), 1)

    def test_displays(self):
        for text in ("a", "a+b=c-d", "a=b+c+d+e=f-g*h=(a+b)=a+b", "\\over{a}{b}=c"):
            row = formula_of(text)
            found = self.answer(self.works.display, row, 5)
            self.assertIsInstance(found, Paragraph)
            style = self.sheet.style_of("display")
            self.assertEqual(laid_open(found), laid_open(set_display(StandIn(self.sheet.book), style, row, 5)))
            task = DisplayTask(self.works, style, row)
            self.assertEqual((found.way, found.paper), solve(task))
            self.assertIs(judge(task, found.way, found.paper), True)

    def test_errors_of_displays(self):
        works = Works(demo_sheet())
        self.refused(NoSign("c", 7), works.display, row_of("abc"), 7)
        self.refused(TooWide(7), works.display, row_of("aaaaaaa"), 7)
        self.assertEqual(works.display(row_of("aaaaaa"), 7).ends, (6,))
        self.refused(NoSign("c", 7), works.display, row_of("aaaaaaaaaaac"), 7)

    def test_a_works_keeps_nothing(self):
        one, two = self.works.word("f", "ab", "word"), self.works.word("f", "ab", "word")
        self.assertEqual(one, two)
        self.assertEqual(sorted(vars(self.works)), ["book", "sheet"])


class EarlierStagesTest(Case):
    """Strips, paragraphs and displays with the real works object give what they give with the stand-in."""

    def test_lines(self):
        sheet = rich_sheet()
        works, stand_in = Works(sheet), StandIn(sheet.book)
        maker = TextMaker(5)
        for _ in range(60):
            text = maker.words(True) + " " + maker.words(True) + " " + maker.words(True)
            maker.labels = 0
            text = text.replace("\\label", "\\mark").replace("\\ref", "\\mark")
            name = maker.dice.pick(("par", "head", "quote", "back", "note", "item"))
            measure = sheet.style_of(name).measure - maker.dice.below(15)
            style = sheet.style_of(name)
            solids, joints, _ = solids_of(style, blocks_of(text)[0][1])
            one = Strip(works, style, measure, solids, joints)
            two = Strip(stand_in, style, measure, solids, joints)
            self.assertEqual(place_kinds(works, style, measure, solids, joints), place_kinds(stand_in, style, measure, solids, joints))
            self.assertEqual(one.places(), two.places())
            pieces = pieces_of(solids, joints, 0, one.count, False)
            self.assertEqual(pieces_glue(works, pieces), pieces_glue(stand_in, pieces))
            self.assertEqual(one.glue(0, one.count), two.glue(0, two.count))
            found = works.paragraph(name, measure, solids, joints, 1)
            self.assertEqual((found.way, found.paper), solve(LineTask(two)))
            self.assertEqual((found.way, found.paper), solve(QuickLineTask(one)))
            self.assertIs(judge(LineTask(one), found.way, found.paper), True)
            self.assertEqual(found.boxes, tuple(line_box(two, i, j) for i, j in zip((0, *found.ends), found.ends)))


if __name__ == "__main__":
    unittest.main()
