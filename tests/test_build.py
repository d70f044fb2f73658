"""From blocks to units: [43], with [13], [29] and [39]."""

import unittest

from galleywork.build import build_matter
from galleywork.errors import NoSign, TooTall, TooWide
from galleywork.floats import float_row
from galleywork.notes import note_rows
from galleywork.numbering import notes_of
from galleywork.setting import page_task
from galleywork.solids import item_inlines, solids_of
from galleywork.tables import table_rows
from galleywork.units import MUST, NEED, Matter
from galleywork.ways import solve
from galleywork.works import Works
from helper import Case, blocks_of, demo_sheet, rich_sheet
from texts import accepted_texts

# Three words of six stand on three lines of eight.
NARROW = {name: {"measure": 8} for name in ("par", "head", "item", "quote", "note", "caption")}
NARROW["par"] = {"measure": 8, "indent": 0}


class BuildCase(Case):

    def matter(self, sheet, text):
        works = Works(sheet)
        found = self.answer(build_matter, works, blocks_of(text))
        self.assertIsInstance(found, Matter)
        for row in (found.units, found.floats, found.lines, found.records, found.heads):
            self.assertIs(type(row), list)
        return found

    def costs(self, text, **changes):
        return [unit.cost for unit in self.matter(demo_sheet(NARROW, **changes), text).units]


class UnitTest(BuildCase):

    def test_nothing(self):
        matter = self.matter(demo_sheet(), "")
        self.assertEqual((matter.told(), matter.records, matter.heads), (((), (), ()), [], []))

    def test_paragraphs_heads_items_and_quotes(self):
        sheet = rich_sheet()
        works = Works(sheet)
        for text, inlines_at in (
            ("o\\mark{a}ne two\\mark{b} t\\mark{c}hree o\\mark{d}ffice\\note{x}\\mark{e} b\\mark{f}anana t\\mark{g}ables e\\mark{h}nd o\\mark{i}ne e\\mark{j}nd b\\mark{k}anana e\\mark{l}nd", 1),
            ("\\head{o\\mark{a}ne two\\mark{b} t\\mark{c}hree o\\mark{d}ffice\\note{x}\\mark{e} b\\mark{f}anana t\\mark{g}ables e\\mark{h}nd o\\mark{i}ne e\\mark{j}nd b\\mark{k}anana e\\mark{l}nd}", 2),
            ("\\item{o\\mark{a}ne two\\mark{b} t\\mark{c}hree o\\mark{d}ffice\\note{x}\\mark{e} b\\mark{f}anana t\\mark{g}ables e\\mark{h}nd o\\mark{i}ne e\\mark{j}nd b\\mark{k}anana e\\mark{l}nd}", 2),
            ("\\quote{o\\mark{a}ne two\\mark{b} t\\mark{c}hree o\\mark{d}ffice\\note{x}\\mark{e} b\\mark{f}anana t\\mark{g}ables e\\mark{h}nd o\\mark{i}ne e\\mark{j}nd b\\mark{k}anana e\\mark{l}nd}", 1),
        ):
            block, = blocks_of(text)
            style = sheet.style_of(block[0])
            inlines = item_inlines(1, block[2]) if block[0] == "item" else block[inlines_at]
            solids, joints, marks = solids_of(style, inlines)
            found = works.paragraph(block[0], style.measure, solids, joints, 1)
            matter = self.matter(sheet, text)
            self.assertGreaterEqual(len(matter.units), 2)
            start = 0
            for unit, end, line in zip(matter.units, found.ends, found.boxes):
                self.assertEqual(unit.box, ("unit", 60, line[2], line[3], ((style.left, 0, line),)))
                self.assertEqual(unit.height, line[2] + line[3])
                self.assertEqual(unit.notes, tuple(n for kind, n in [s[:2] for s in solids[start:end]] if kind == "note"))
                self.assertEqual(unit.marks, tuple(word for k, word in marks if start <= k < end))
                self.assertEqual((unit.gap, unit.block), (style.ahead if start == 0 else style.between, 1))
                start = end
            self.assertEqual(matter.records[0], (block[0], 1, found.way, found.paper))
            self.assertEqual([record[0] for record in matter.records], [block[0], "note"])

    def test_items_have_their_numbers(self):
        sheet = rich_sheet()
        matter = self.matter(sheet, "\\item{a}\\item{b}\n\nc\\item{d}")
        letters = ["".join(part[2][4][2] for _, _, word in unit.box[4][0][2][4] for part in word[4]) for unit in matter.units]
        self.assertEqual(letters, ["1.a", "2.b", "c", "1.d"])

    def test_displays(self):
        sheet = rich_sheet()
        text = "\\display{a=b+c+d+e=f-g*h=(a+b)=a+b+c}"
        found = Works(sheet).display(blocks_of(text)[0][1], 1)
        self.assertGreaterEqual(len(found.boxes), 2)
        matter = self.matter(sheet, text)
        style = sheet.style_of("display")
        self.assertEqual([unit.box for unit in matter.units], [("unit", 60, line[2], line[3], ((4, 0, line),)) for line in found.boxes])
        self.assertEqual([unit.gap for unit in matter.units], [style.ahead] + [style.between] * (len(found.boxes) - 1))
        self.assertEqual([(unit.notes, unit.marks, unit.block) for unit in matter.units], [((), (), 1)] * len(found.boxes))
        self.assertEqual(matter.records, [("display", 1, found.way, found.paper)])

    def test_tables(self):
        sheet = rich_sheet()
        text = "\n\na\n\n\\table{20 30}{a\\note{x}\\mark{p} & b \\\\ & \\mark{q} \\\\ c & office end end end end end}"
        rows, records = table_rows(Works(sheet), blocks_of(text)[1], 2)
        matter = self.matter(sheet, text)
        style = sheet.style_of("cell")
        self.assertEqual([(unit.height, unit.box, unit.notes, unit.marks) for unit in matter.units[1:]], rows)
        self.assertEqual([unit.gap for unit in matter.units[1:]], [style.ahead, style.between, style.between])
        self.assertEqual([unit.block for unit in matter.units], [1, 2, 2, 2])
        self.assertEqual(matter.records[1:7], records)
        self.assertEqual([record[:2] for record in matter.records[7:]], [("note", 2)])

    def test_paragraphs_have_the_measure_of_their_style(self):
        sheet = rich_sheet()
        for name, text in (("par", "a"), ("head", "\\head{a}"), ("item", "\\item{a}"), ("quote", "\\quote{a}"), ("display", "\\display{a}")):
            unit = self.matter(sheet, text).units[0]
            style = sheet.style_of(name)
            self.assertEqual((unit.box[4][0][0], unit.box[4][0][2][1]), (style.left, style.measure))

    def test_heads(self):
        sheet = rich_sheet()
        text = "a\n\nb\\newpage\\head{one}\\table{20 30}{a & b \\\\ c & d}\\float{3}{}\\head{two}\\display{x}\\head{three}"
        self.assertEqual(self.matter(sheet, text).heads, [(1, 2, 4), (2, 5, 7), (3, 7, 9)])


class CostTest(BuildCase):

    def test_lines(self):
        for count, costs in ((1, [0]), (2, [0, 150]), (3, [0, 150, 150]), (4, [0, 150, 0, 150]), (5, [0, 150, 0, 0, 150]), (7, [0, 150, 0, 0, 0, 0, 150])):
            words = " ".join(["ab"] * count)
            self.assertEqual(self.costs(words), costs)
            self.assertEqual(self.costs("\\quote{" + words + "}"), costs)
        # The number and the first word do not stand on one line.
        self.assertEqual(self.costs("\\item{ab ab}"), [0, 150, 150])
        self.assertEqual(self.costs("\\item{a}"), [0])

    def test_heads(self):
        for count in range(1, 5):
            head = "\\head{" + " ".join(["ab"] * count) + "}"
            self.assertEqual(self.costs(head), [0] + [NEED] * (count - 1))
            self.assertEqual(self.costs(head + "ab"), [0] + [NEED] * count)
            self.assertEqual(self.costs(head + "ab ab ab"), [0] + [NEED] * count + [150, 150])
            self.assertEqual(self.costs(head + "\\display{a}"), [0] + [NEED] * count)
            self.assertEqual(self.costs(head + "\\table{8 8}{a&a\\\\b&b}"), [0] + [NEED] * count + [30])
            self.assertEqual(self.costs(head + head), [0] + [NEED] * (2 * count - 1))
            self.assertEqual(self.costs("a" + head + "\\float{3}{}\\float{3}{}ab ab"), [0, 0] + [NEED] * count + [150])

    def test_displays_and_tables(self):
        display = {"display": {"measure": 8}}
        costs = [unit.cost for unit in self.matter(demo_sheet(display), "\\display{a-b-b-a}").units]
        self.assertEqual(costs, [0, 50, 50, 50])
        self.assertEqual([unit.cost for unit in self.matter(demo_sheet(display), "\\display{a-b}").units], [0, 50])
        self.assertEqual([unit.cost for unit in self.matter(demo_sheet(display), "\\display{a}a").units], [0, 0])
        self.assertEqual(self.costs("\\table{9}{a}"), [0])
        self.assertEqual(self.costs("\\table{9}{a\\\\b\\\\\\\\b}"), [0, 30, 30, 30])
        self.assertEqual(self.costs("\\table{9}{a\\\\b}\\table{9}{a\\\\b}"), [0, 30, 0, 30])

    def test_new_pages(self):
        for text, costs in (
            ("\\newpage", []), ("\\newpage a", [MUST]), ("\\newpage\\newpage\n\n\\newpage a", [MUST]), ("a\\newpage", [0]),
            ("a\\newpage b", [0, MUST]), ("a\\newpage\\newpage b", [0, MUST]), ("\\newpage\\float{3}{}a", [MUST]), ("\\float{3}{}\\newpage a", [MUST]),
            ("a\\float{3}{}\\newpage\\float{3}{}\\float{3}{} b\n\nb", [0, MUST, 0]), ("\\newpage ab ab ab", [MUST, 150, 150]),
            ("\\newpage\\head{ab ab}ab", [MUST, NEED, NEED]), ("\\head{ab}\\newpage ab ab", [0, MUST, 150]),
            ("\\head{ab}\\float{3}{}\\newpage\\head{ab}a", [0, MUST, NEED]), ("\\newpage\\display{a}", [MUST]), ("\\newpage\\table{9}{a\\\\b}", [MUST, 30]),
            ("a\\newpage\\item{a}\\newpage\\quote{b}\n\nb\\newpage", [0, MUST, MUST, 0]),
        ):
            with self.subTest(text):
                self.assertEqual(self.costs(text), costs)

    def test_must_wins_behind_a_head(self):
        self.assertEqual(self.costs("\\head{ab}\\newpage\\table{9}{a\\\\b}"), [0, MUST, 30])
        self.assertEqual(self.costs("\\head{ab}\\newpage\\display{a}\\newpage\\head{ab ab}"), [0, MUST, MUST, NEED])

    def test_need_wins_within_a_head(self):
        # The second and the last line of a head cost more than those of other blocks.
        self.assertEqual(self.costs("\\head{ab ab ab ab}"), [0, NEED, NEED, NEED])


class FloatTest(BuildCase):

    def test_floats(self):
        sheet = rich_sheet()
        text = "\\float{3}{a\\mark{p}}ab\n\nab\\float{4}{}\\newpage\\float{5}{\\mark{q}}\\head{ab}\\float{6}{}"
        matter = self.matter(sheet, text)
        works = Works(sheet)
        rows = [(float_row(works, block, k), k, block[1]) for k, block in enumerate(blocks_of(text), 1) if block[0] == "float"]
        self.assertEqual([(one.box, one.marks, one.block, one.number) for one in matter.floats], [(row[0], row[1], k, n) for row, k, n in rows])
        self.assertEqual([one.height for one in matter.floats], [one.box[3] for one in matter.floats])
        self.assertEqual([one.behind for one in matter.floats], [3, 1, 1, 0])
        self.assertEqual([one.number for one in matter.floats], [1, 2, 3, 4])
        self.assertEqual([one.block for one in matter.floats], [1, 4, 6, 8])
        self.assertEqual([one.marks for one in matter.floats], [("p",), (), ("q",), ()])
        self.assertEqual([record for record in matter.records if record[0] == "caption"], [row[2] for row, _, _ in rows])

    def test_floats_alone(self):
        matter = self.matter(demo_sheet(), "\\float{3}{}\\float{4}{}")
        self.assertEqual(matter.told(), ((), ((3, 0), (4, 0)), ()))

    def test_behind_counts_units_not_blocks(self):
        matter = self.matter(demo_sheet(NARROW), "ab ab\\float{3}{}ab ab ab\\float{3}{}\\table{9}{a\\\\b\\\\}\\float{3}{}")
        self.assertEqual([one.behind for one in matter.floats], [6, 3, 0])


class NoteTest(BuildCase):

    def test_notes(self):
        sheet = rich_sheet()
        text = ("one\\note{first\\mark{p} banana table end office banana end one\\mark{q}} two\\note{second}\n\n"
                "\\table{20 30}{a & \\note{third} \\\\ b\\note{fourth}\\note{fifth} & c}\\head{end\\note{sixth}}a")
        matter = self.matter(sheet, text)
        works = Works(sheet)
        expected = []
        for k, block in enumerate(blocks_of(text), 1):
            for n, inlines in notes_of(block):
                for opens, box, marks in note_rows(works, n, inlines, k)[0]:
                    expected.append((opens, box, marks, k, n, box[2] + box[3]))
        found = [(line.opens, line.box, line.marks, line.block, line.number, line.height) for line in matter.lines]
        self.assertEqual(found, expected)
        self.assertGreater(len(found), 6)
        self.assertEqual([line.number for line in matter.lines if line.opens], [1, 2, 3, 4, 5, 6])
        self.assertEqual([unit.notes for unit in matter.units], [(1, 2), (3,), (4, 5), (6,), ()])
        self.assertEqual([line.behind for line in matter.lines if line.opens], [4, 4, 3, 2, 2, 1])
        self.assertEqual({line.behind for line in matter.lines if line.number == 1}, {4})

    def test_behind_the_line_of_the_mark(self):
        matter = self.matter(demo_sheet(NARROW), "a\\note{a} b\\note{a}\\note{b b b} ab ab\\note{b}")
        self.assertEqual([unit.notes for unit in matter.units], [(1,), (2, 3), (), (4,)])
        self.assertEqual([(line.number, line.opens, line.behind) for line in matter.lines],
                         [(1, True, 3), (2, True, 2), (3, True, 2), (3, False, 2), (3, False, 2), (4, True, 0)])

    def test_the_numbers_behind_do_not_rise(self):
        sheet = rich_sheet()
        for text, _ in accepted_texts(sheet, 8, 20, 12):
            matter = self.matter(sheet, text)
            for row in (matter.floats, matter.lines):
                behinds = [one.behind for one in row]
                self.assertEqual(behinds, sorted(behinds, reverse=True))
                self.assertTrue(all(0 <= behind <= len(matter.units) for behind in behinds))
            self.assertEqual([one.number for one in matter.floats], list(range(1, len(matter.floats) + 1)))
            opening = [line.number for line in matter.lines if line.opens]
            self.assertEqual(opening, list(range(1, len(opening) + 1)))
            self.assertEqual([n for unit in matter.units for n in unit.notes], opening)


class RecordTest(BuildCase):

    def test_the_order_of_setting(self):
        text = ("\\head{a\\note{b}}\\table{9 9}{a\\note{b} & \\\\ b\\note{a} & b}\\float{2}{a}\\display{a}\\newpage\\item{a}\\quote{a\\note{b}\\strong{\\note{a}}}"
                "a\\float{3}{}")
        matter = self.matter(demo_sheet(), text)
        self.assertEqual([record[:2] for record in matter.records], [
            ("head", 1), ("note", 1), ("cell", 2), ("cell", 2), ("cell", 2), ("cell", 2), ("note", 2), ("note", 2), ("caption", 3), ("display", 4),
            ("item", 6), ("quote", 7), ("note", 7), ("note", 7), ("par", 8), ("caption", 9)])
        self.assertEqual([len(record) for record in matter.records], [4] * 16)
        self.assertEqual(matter.records[3][2:], (((0, 1),), (((0, 1), 0),)))
        self.assertEqual(matter.records[15][2:], (((0, 1),), (((0, 1), 0),)))


class ErrorTest(BuildCase):

    def refused_text(self, error, text, sheet=None):
        self.refused(error, build_matter, Works(sheet or demo_sheet()), blocks_of(text))

    def test_each_block(self):
        for text, error in (
            ("a\n\nx", NoSign("x", 2)), ("\\head{x}", NoSign("x", 1)), ("a\\item{x}", NoSign("x", 2)), ("\\quote{a\\strong{y}}", NoSign("y", 1)),
            ("\\display{a=b}", NoSign("=", 1)), ("\\table{9}{x}", NoSign("x", 1)), ("\\float{3}{x}", NoSign("x", 1)), ("a\\note{x}", NoSign("x", 1)),
            ("\\newpage a\\note{$aaaaaaaa$}", TooWide(2)), ("$aaaaaaaa$", TooWide(1)), ("\\display{aaaaaaa}", TooWide(1)), ("\\table{21}{a}", TooWide(1)),
            ("\\table{20}{$aaaaaaaa$}", TooWide(1)), ("\\float{3}{$aaaaaaaa$}", TooWide(1)), ("\\head{a}\\newpage\\newpage\\table{8 8}{a & x}", NoSign("x", 4)),
            ("a\\mark{x}\\label{y}", None),
        ):
            with self.subTest(text):
                if error is None:
                    self.matter(demo_sheet(), text)
                else:
                    self.refused_text(error, text)

    def test_the_table_comes_ahead_of_its_cells(self):
        self.refused_text(TooWide(1), "\\table{21}{x}")
        self.refused_text(TooWide(1), "\\table{7}{x\\note{y}}")
        self.refused_text(NoSign("x", 1), "\\table{8}{x\\note{y}}")

    def test_notes_come_behind_the_paragraphs_of_their_block(self):
        self.refused_text(NoSign("y", 1), "a\\note{x} y")
        self.refused_text(TooWide(1), "a\\note{x} $aaaaaaaa$")
        self.refused_text(NoSign("x", 1), "a\\note{x}\n\ny")
        self.refused_text(NoSign("y", 1), "\\table{9 9}{a\\note{x} & y}")
        self.refused_text(NoSign("x", 1), "\\table{9 9}{a & \\note{x} \\\\ \\note{y} & a}")
        self.refused_text(TooWide(1), "a\\note{$aaaaaaaa$}\\note{x}")
        self.refused_text(NoSign("x", 1), "a\\note{x}\\note{$aaaaaaaa$}")

    def test_blocks_one_after_another(self):
        self.refused_text(TooWide(1), "$aaaaaaaa$\n\nx")
        self.refused_text(NoSign("x", 1), "x\n\n$aaaaaaaa$")
        self.refused_text(NoSign("x", 2), "\\float{29}{}x")
        self.refused_text(TooTall(1), "\\float{30}{}x")
        self.refused_text(NoSign("x", 1), "x\\float{30}{}")

    def test_too_tall_units(self):
        # Lines are 7 high.
        for height, found in ((7, True), (6, False)):
            for text in ("a", "\\head{a}", "\\item{a}", "\\quote{b}", "\\table{9 9}{a & b}", "\\display{a}", "\\table{9}{}"):
                if found:
                    self.matter(demo_sheet(height=height), text)
                else:
                    self.refused_text(TooTall(1), text, demo_sheet(height=height))
        self.refused_text(TooTall(3), "a\n\n\\display{a}\\table{9 9}{bb bb & a}", demo_sheet(height=8))
        self.refused_text(TooTall(1), "\\table{8}{a\\\\b b\\\\a}", demo_sheet(height=13))
        self.matter(demo_sheet(height=14), "\\table{8}{a\\\\b b\\\\a}")

    def test_too_tall_floats(self):
        for height, float_gap, tall, found in ((30, 1, 29, True), (30, 1, 30, False), (30, 0, 30, True), (30, 0, 31, False), (1000, 1000, 1, False), (1001, 1000, 1, True)):
            text = "\\newpage\\float{%d}{}" % tall
            sheet = demo_sheet(height=height, float_gap=float_gap)
            if found:
                self.assertEqual(len(self.matter(sheet, text).floats), 1)
            else:
                self.refused_text(TooTall(2), text, sheet)
        # The caption counts, too.
        self.matter(demo_sheet(), "\\float{22}{a}")
        self.refused_text(TooTall(1), "\\float{23}{a}")

    def test_too_tall_note_lines(self):
        # With its mark the first line of a note is 9 high.
        for height, rule, found in ((10, 1, True), (9, 1, False), (12, 3, True), (12, 4, False), (8, 1, False)):
            sheet = demo_sheet({"par": {"measure": 12, "indent": 0}}, height=height, rule=rule)
            if found:
                self.assertEqual(len(self.matter(sheet, "a\n\nb\\note{a}").lines), 1)
            elif height == 8:
                # The line of the mark itself is 9 high.
                self.refused_text(TooTall(2), "a\n\nb\\note{a}", sheet)
            else:
                self.refused_text(TooTall(2), "a\n\nb\\note{a}", sheet)

    def test_too_tall_comes_last_in_its_block(self):
        sheet = demo_sheet(height=6)
        self.refused_text(NoSign("x", 1), "a x", sheet)
        self.refused_text(NoSign("x", 1), "a\\note{x}", sheet)
        self.refused_text(TooWide(1), "a\\note{b}\\note{$aaaaaaaa$}", sheet)
        self.refused_text(TooTall(1), "a\n\nx", sheet)
        self.refused_text(TooTall(1), "\\table{9 9}{a & b \\\\ a & a}x", sheet)
        self.refused_text(NoSign("x", 1), "\\table{9 9}{a & b \\\\ a & x}", sheet)
        self.refused_text(NoSign("x", 1), "\\float{50}{x}")

    def test_there_is_a_way_for_what_is_accepted(self):
        sheet = demo_sheet(height=10)
        matter = self.matter(sheet, "a\\note{a b ab ab}\\float{9}{}b\\float{2}{a}\n\n\\newpage\\head{a}b\\note{a}")
        way, _ = solve(page_task(sheet, matter))
        self.assertIsNotNone(way)


if __name__ == "__main__":
    unittest.main()
