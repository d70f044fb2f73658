"""Notes: [41]."""

import unittest

from galleywork.errors import NoSign, TooWide
from galleywork.judging import judge
from galleywork.linetask import LineTask
from galleywork.notes import note_rows
from galleywork.sheet import Sheet
from galleywork.solids import note_inlines, solids_of
from galleywork.strip import Strip
from galleywork.works import Works
from helper import Case, book_of, demo_sheet, inlines_of, rich_sheet, told_font, told_styles
from texts import TextMaker


class NoteTest(Case):

    def rows(self, works, number, text, block=6):
        rows, record = self.answer(note_rows, works, number, inlines_of(text), block)
        self.assertEqual((type(rows), type(record)), (list, tuple))
        for row in rows:
            self.assertEqual([type(item) for item in row], [bool, tuple, tuple])
        return rows, record

    def paragraph(self, works, number, text):
        style = works.sheet.style_of("note")
        solids, joints, _ = solids_of(style, note_inlines(number, inlines_of(text)))
        return works.paragraph("note", style.measure, solids, joints, 6)

    def test_one_line(self):
        works = Works(demo_sheet({"note": {"left": 2, "measure": 17}}))
        rows, record = self.rows(works, 2, "ab")
        mark = works.mark(2)
        # The mark is raised by 3, and then 4 high.
        line = ("line", 17, 7, 2, ((0, 0, mark), (4, 0, works.word("f", "ab", "word"))))
        self.assertEqual(rows, [(True, ("noteline", 20, 7, 2, ((2, 0, line),)), ())])
        self.assertEqual(record, ("note", 6, ((0, 1), (3, 1)), (((0, 1), 100), ((3, 1), 0))))

    def test_several_lines(self):
        works = Works(demo_sheet({"note": {"left": 3, "measure": 12}}))
        text = "\\mark{x}ab\\mark{y} ab b\\mark{z} a\\strong{b\\mark{u}} a\\mark{v}\\mark{w}"
        rows, record = self.rows(works, 1, text)
        found = self.paragraph(works, 1, text)
        self.assertEqual(found.ends, (3, 6, 9))
        self.assertEqual([row[0] for row in rows], [True, False, False])
        self.assertEqual([row[1] for row in rows], [("noteline", 20, box[2], box[3], ((3, 0, box),)) for box in found.boxes])
        # The first line is higher, by the mark that is raised by 3.
        self.assertEqual([box[2:4] for box in found.boxes], [(7, 2), (5, 2), (5, 2)])
        self.assertEqual([row[2] for row in rows], [("x", "y"), ("z",), ("u", "v", "w")])
        self.assertEqual(record, ("note", 6, found.way, found.paper))

    def test_the_words_at_the_edges_of_lines(self):
        works = Works(demo_sheet({"note": {"measure": 12}}))
        rows, _ = self.rows(works, 1, "ab\\mark{p} a\\mark{q}b b\\mark{r} a\\mark{s}")
        self.assertEqual([row[2] for row in rows], [("p",), ("q", "r"), ("s",)])

    def test_the_words_ahead_of_the_first_solid(self):
        works = Works(demo_sheet())
        self.assertEqual([row[2] for row in self.rows(works, 1, "\\mark{x}\\strong{\\mark{y}}a\\mark{x}")[0]], [("x", "y", "x")])

    def test_the_width_of_the_mark_counts(self):
        works = Works(demo_sheet({"note": {"measure": 15}}))
        # A digit is 2 wide, the tie 1 at the least, and b is 4 wide.
        for n, text, count in ((7, "ab", 1), (7, "bbb", 1), (7, "ab ab", 2), (77, "bb", 1), (77, "bbb", 2)):
            self.assertEqual(len(self.rows(works, n, text)[0]), count)

    def test_errors(self):
        works = Works(demo_sheet())
        for text, error in (("ax", NoSign("x", 9)), ("a$aaaaaaa$", TooWide(9)), ("$aaaaaaa$ x", NoSign("x", 9)), ("a\\strong{$x$}", NoSign("x", 9))):
            self.refused(error, note_rows, works, 3, inlines_of(text), 9)
        self.assertEqual(len(self.rows(works, 3, "$aaaaaa$")[0]), 2)

    def test_the_mark_itself_may_be_too_wide(self):
        # The digits of the marks are in another font, each of them 10 wide.
        wide = {char: 10 for char in "0123456789"}
        book = book_of(told_font("f", {"a": 2}), told_font("m", wide), font="m")
        for measure, found in ((20, True), (19, False)):
            works = Works(Sheet(book, 50, 100, told_styles(note={"measure": measure})))
            if found:
                self.assertEqual(len(self.rows(works, 12, "a")[0]), 2)
            else:
                self.refused(TooWide(5), note_rows, works, 12, inlines_of("a"), 5)
        works = Works(Sheet(book, 50, 100, told_styles(note={"measure": 24, "indent": 5})))
        self.refused(TooWide(5), note_rows, works, 12, inlines_of("a"), 5)

    def test_the_mark_makes_the_first_line_higher(self):
        for up, h in ((0, 5), (1, 5), (2, 6), (10, 14)):
            book = book_of(told_font("f", {"a": 2}, above=5, below=2), up=up)
            rows, _ = self.rows(Works(Sheet(book, 20, 30, told_styles())), 1, "a a\\\\a")
            self.assertEqual([row[1][2:4] for row in rows], [(h, 2), (5, 2)])

    def test_random_notes(self):
        sheet = rich_sheet()
        works = Works(sheet)
        style = sheet.style_of("note")
        maker = TextMaker(31)
        for n in range(1, 40):
            text = (maker.words(False) + " " + maker.words(False)).replace("\\label", "\\mark").replace("\\ref", "\\mark")
            rows, record = self.rows(works, n, text)
            found = self.paragraph(works, n, text)
            solids, joints, marks = solids_of(style, note_inlines(n, inlines_of(text)))
            self.assertEqual(record, ("note", 6, found.way, found.paper))
            self.assertEqual([word for row in rows for word in row[2]], [word for _, word in marks])
            self.assertEqual([row[0] for row in rows], [True] + [False] * (len(found.ends) - 1))
            self.assertEqual([row[1] for row in rows], [("noteline", 60, box[2], box[3], ((5, 0, box),)) for box in found.boxes])
            self.assertIs(judge(LineTask(Strip(works, style, 44, solids, joints)), record[2], record[3]), True)


if __name__ == "__main__":
    unittest.main()
