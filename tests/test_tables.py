"""Tables: [40]."""

import unittest

from galleywork.boxes import stacked
from galleywork.errors import NoSign, TooWide
from galleywork.judging import judge
from galleywork.linetask import LineTask
from galleywork.sheet import Sheet
from galleywork.solids import solids_of
from galleywork.strip import Strip
from galleywork.tables import table_rows
from galleywork.works import Works
from helper import Case, blocks_of, book_of, demo_sheet, rich_sheet, told_font, told_styles
from texts import TextMaker


def table_of(text):
    block, = blocks_of(text)
    return block


class TableCase(Case):

    def rows(self, works, text, number=3):
        rows, records = self.answer(table_rows, works, table_of(text), number)
        self.assertEqual((type(rows), type(records)), (list, list))
        for row in rows:
            self.assertEqual([type(item) for item in row], [int, tuple, tuple, tuple])
        return rows, records

    def paragraph(self, works, width, inlines, number=3):
        solids, joints, _ = solids_of(works.sheet.style_of("cell"), inlines)
        return works.paragraph("cell", width, solids, joints, number)


class WidthTest(TableCase):

    def test_the_sum_of_the_widths(self):
        for widths, column_gap, found in (
            ("20", 0, True), ("21", 0, False), ("20", 1000, True), ("8 8", 4, True), ("8 8", 5, False), ("8 9", 4, False), ("9 8", 3, True),
            ("8 8 8", 0, False), ("10000", 0, False),
        ):
            works = Works(demo_sheet(column_gap=column_gap))
            cells = " & ".join("a" for _ in widths.split())
            text = "\\table{" + widths + "}{" + cells + "}"
            with self.subTest((widths, column_gap)):
                if found:
                    self.assertEqual(len(self.rows(works, text)[0]), 1)
                else:
                    self.refused(TooWide(6), table_rows, works, table_of(text), 6)

    def test_three_columns(self):
        sheet = demo_sheet(measure=30, column_gap=3)
        self.assertEqual(len(self.rows(Works(sheet), "\\table{8 8 8}{a&b&a}")[0]), 1)
        self.refused(TooWide(1), table_rows, Works(sheet), table_of("\\table{8 8 9}{a&b&a}"), 1)

    def test_columns_that_are_too_narrow(self):
        # 2 * 4 for f, 2 * 5 + 2 for s, and the indent.
        book = book_of(told_font("f", {"a": 4}), told_font("s", {"a": 5}, kerns=(("a", "a", 2), ("a", "-", -1))))
        for font, strong, indent, need in (("f", "f", 0, 8), ("s", "f", 0, 12), ("f", "s", 0, 12), ("s", "s", 0, 12), ("f", "f", 3, 11), ("f", "s", 3, 15)):
            cell = {"font": font, "strong": strong, "indent": indent, "measure": 50}
            sheet = Sheet(book, 100, 300, told_styles(cell=cell))
            for text in ("\\table{%d}{a}", "\\table{%d 40}{a & a}", "\\table{40 %d}{a & a}", "\\table{%d}{}"):
                with self.subTest((font, strong, indent, text)):
                    self.assertEqual(len(self.rows(Works(sheet), text % need)[0]), 1)
                    self.refused(TooWide(2), table_rows, Works(sheet), table_of(text % (need - 1)), 2)

    def test_the_widths_come_before_the_cells(self):
        works = Works(demo_sheet())
        self.refused(TooWide(4), table_rows, works, table_of("\\table{20 20}{x & $y$}"), 4)
        self.refused(TooWide(4), table_rows, works, table_of("\\table{2}{x}"), 4)
        self.refused(NoSign("x", 4), table_rows, works, table_of("\\table{20}{x}"), 4)


class CellTest(TableCase):

    def test_errors_of_cells(self):
        works = Works(demo_sheet())
        for text, error in (
            ("\\table{9 9}{a & x \\\\ y & a}", NoSign("x", 8)), ("\\table{9 9}{a & a \\\\ y & z}", NoSign("y", 8)),
            ("\\table{9 9}{a & $aaaa$ \\\\ y & a}", TooWide(8)), ("\\table{9 9}{x & $aaaa$}", NoSign("x", 8)), ("\\table{9 9}{$aaaa$ & x}", TooWide(8)),
            ("\\table{9 9}{$aaaa$x & a}", NoSign("x", 8)),
        ):
            self.refused(error, table_rows, works, table_of(text), 8)

    def test_boxes(self):
        works = Works(demo_sheet({"cell": {"left": 1, "measure": 10}}, column_gap=2))
        rows, records = self.rows(works, "\\table{8 10}{b b & b \\\\ & ab}")
        cells = [self.paragraph(works, 8, (("word", "b"), ("gap",), ("word", "b"))), self.paragraph(works, 10, (("word", "b"),)),
                 self.paragraph(works, 8, ()), self.paragraph(works, 10, (("word", "ab"),))]
        # Two words do not fit side by side.
        self.assertEqual(len(cells[0].boxes), 2)
        one = ("unit", 20, 0, 14, ((0, 0, stacked("cell", 8, *cells[0].boxes)), (10, 0, stacked("cell", 10, *cells[1].boxes))))
        two = ("unit", 20, 0, 7, ((0, 0, ("cell", 8, 0, 0, ())), (10, 0, stacked("cell", 10, *cells[3].boxes))))
        self.assertEqual(rows, [(14, one, (), ()), (7, two, (), ())])
        self.assertEqual(records, [("cell", 3, cell.way, cell.paper) for cell in cells])
        self.assertEqual([record[2] for record in records][2], ((0, 1),))

    def test_places_of_columns(self):
        for column_gap in (0, 1, 7):
            works = Works(rich_sheet(column_gap=column_gap))
            rows, _ = self.rows(works, "\\table{12 13 14}{a & b & c}")
            self.assertEqual([(dx, dy) for dx, dy, _ in rows[0][1][4]], [(0, 0), (12 + column_gap, 0), (25 + 2 * column_gap, 0)])
            self.assertEqual([cell[:3] for _, _, cell in rows[0][1][4]], [("cell", 12, 0), ("cell", 13, 0), ("cell", 14, 0)])

    def test_left_and_measure_of_the_style_are_not_used(self):
        text = "\\table{8 10}{b b & b \\\\ & ab}"
        found = [self.rows(Works(demo_sheet({"cell": {"left": left, "measure": measure}})), text) for left, measure in ((0, 20), (1, 8), (12, 8))]
        self.assertEqual(found[0], found[1])
        self.assertEqual(found[0], found[2])

    def test_heights(self):
        # A font with deep and high signs: lines are as high as the signs in formulas ask for.
        book = book_of(told_font("f", {"a": 4}, above=5, below=3), told_font("g", {"h": (4, 20, 10)}), font="g")
        sheet = Sheet(book, 100, 300, told_styles())
        works = Works(sheet)
        for text, height in (
            ("\\table{40}{}", 8), ("\\table{40}{a}", 8), ("\\table{40}{a\\\\}", 8), ("\\table{40}{$h$}", 30), ("\\table{40 40}{a & $h$}", 30),
            ("\\table{40 40}{$h$ & }", 30), ("\\table{40 40}{ & }", 8), ("\\table{8 40}{a a a & a}", 24), ("\\table{8 40}{a a a & $h$}", 30),
            ("\\table{8 40}{a a a a a & $h$}", 40), ("\\table{40}{\\mark{a}}", 8),
        ):
            with self.subTest(text):
                row = self.rows(works, text)[0][0]
                self.assertEqual(row[0], height)
                self.assertEqual(row[1][:4], ("unit", 100, 0, height))

    def test_the_leading_is_that_of_the_plain_font(self):
        book = book_of(told_font("f", {"a": 4}, above=5, below=3), told_font("g", {"a": 4}, above=20, below=10))
        for font, strong, height in (("f", "g", 8), ("g", "f", 30)):
            works = Works(Sheet(book, 100, 300, told_styles(cell={"font": font, "strong": strong})))
            self.assertEqual(self.rows(works, "\\table{40 40}{ & }")[0][0][0], height)

    def test_notes_and_index_words(self):
        works = Works(rich_sheet())
        text = ("\\table{20 30}{\\mark{x}a\\note{one\\mark{in}}\\strong{b\\mark{y}} & c\\note{two}d\\note{three} \\\\ "
                "\\mark{z}\\strong{\\mark{w}} & ~ \\\\ a & \\note{four}\\mark{a}\\mark{a}}")
        rows, _ = self.rows(works, text)
        self.assertEqual([row[2:] for row in rows], [((1, 2, 3), ("x", "y")), ((), ("z", "w")), ((4,), ("a", "a"))])

    def test_notes_over_several_lines(self):
        works = Works(demo_sheet())
        rows, _ = self.rows(works, "\\table{8 11}{a\\note{a} b\\mark{p} b\\note{b} & ab\\mark{q}\\note{a} a}")
        self.assertEqual([row[2:] for row in rows], [((1, 2, 3), ("p", "q"))])

    def test_records_row_by_row(self):
        works = Works(rich_sheet())
        text = "\\table{14 30}{one & two\\\\ & end table end \\\\ a b a b & }"
        rows, records = self.rows(works, text, 17)
        block = table_of(text)
        expected = []
        for row in block[2]:
            for width, cell in zip(block[1], row):
                found = self.paragraph(works, width, cell)
                expected.append(("cell", 17, found.way, found.paper))
        self.assertEqual(records, expected)
        self.assertEqual(len(rows), 3)

    def test_random_cells(self):
        sheet = rich_sheet()
        works = Works(sheet)
        maker = TextMaker(77)
        for _ in range(40):
            cells = [[maker.dice.pick(("", "a", "table \\mark{b}", "\\strong{tt}at", "one $x^2$ a-b", "one\\note{a}end end end")) for _ in range(3)]
                     for _ in range(1 + maker.dice.below(3))]
            block = table_of("\\table{12 15 17}{" + "\\\\".join(" & ".join(row) for row in cells) + "}")
            rows, records = self.answer(table_rows, works, block, 2)
            self.assertEqual((len(rows), len(records)), (len(cells), 3 * len(cells)))
            for row, inlines in zip(rows, block[2]):
                boxes = [stacked("cell", width, *self.paragraph(works, width, cell).boxes) for width, cell in zip(block[1], inlines)]
                height = max([sheet.book.font_of("n").leading] + [box[3] for box in boxes])
                self.assertEqual(row[:2], (height, ("unit", 60, 0, height, tuple(zip((0, 15, 33), (0, 0, 0), boxes)))))
            for record, width in zip(records, block[1] * len(rows)):
                self.assertEqual(record[:2], ("cell", 2))
            for record, (width, inlines) in zip(records, [(width, cell) for row in block[2] for width, cell in zip(block[1], row)]):
                solids, joints, _ = solids_of(sheet.style_of("cell"), inlines)
                self.assertIs(judge(LineTask(Strip(works, sheet.style_of("cell"), width, solids, joints)), record[2], record[3]), True)


if __name__ == "__main__":
    unittest.main()
