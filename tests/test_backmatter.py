"""Page numbers, contents, index and back matter: [53] and [54]."""

import unittest

from galleywork.backmatter import back_matter, contents_of, index_of, page_numbers
from galleywork.build import build_matter
from galleywork.errors import NoSign, TooTall, TooWide
from galleywork.glue import Glue
from galleywork.setting import page_task
from galleywork.solids import solids_of
from galleywork.units import FloatUnit, Matter, NoteLine, Unit
from galleywork.ways import solve
from galleywork.works import Works
from helper import Case, blocks_of, demo_sheet, rich_sheet
from texts import accepted_texts

BOX = ("unit", 1, 1, 0, ())


def matter_of(units=(), floats=(), lines=(), heads=()):
    """A matter whose things have these index words."""
    matter = Matter()
    matter.units.extend(Unit(1, Glue.zero(), 0, BOX, (), words, 1) for words in units)
    matter.floats.extend(FloatUnit(1, 0, BOX, words, 1, 1) for words in floats)
    matter.lines.extend(NoteLine(1, True, 0, BOX, words, 1, 1) for words in lines)
    matter.heads.extend(heads)
    return matter


class NumberTest(Case):

    def test_example(self):
        way = ((0, 0, 0), (2, 1, 0), (5, 1, 1), (6, 1, 2))
        for one in (way, list(way)):
            self.assertEqual(self.answer(page_numbers, one), ((1, 1, 2, 2, 2, 3), (1,), (2, 3)))

    def test_pages_that_hold_nothing_of_a_sort(self):
        for way, numbers in (
            (((0, 0, 0),), ((), (), ())), (((0, 0, 0), (3, 0, 0)), ((1, 1, 1), (), ())), (((0, 0, 0), (0, 2, 0), (0, 2, 1), (1, 2, 1)), ((3,), (1, 1), (2,))),
            (((0, 0, 0), (1, 0, 0), (2, 0, 0), (2, 1, 2), (3, 1, 3)), ((1, 2, 4), (3,), (3, 3, 4))),
        ):
            found = self.answer(page_numbers, way)
            self.assertEqual(found, numbers)
            self.assertEqual([type(part) for part in found], [tuple] * 3)

    def test_great_numbers_of_units(self):
        self.assertEqual(page_numbers(((0, 0, 0), (5000, 0, 0), (5001, 0, 0)))[0], (1,) * 5000 + (2,))


class ContentsTest(Case):

    def test_contents(self):
        matter = matter_of([()] * 5, heads=[(1, 0, 1), (2, 2, 2), (3, 4, 5)])
        self.assertEqual(self.answer(contents_of, matter, ((1, 1, 2, 2, 7), (), ())), [(1, 1), (2, 2), (3, 7)])
        self.assertEqual(self.answer(contents_of, matter_of(), ((), (), ())), [])

    def test_index(self):
        matter = matter_of([("b", "a"), (), ("a", "a", "B")], [("b",), ("zz",)], [("a",), ("0", "b")])
        self.assertEqual(self.answer(index_of, matter, ((1, 1, 3), (2, 2), (1, 4))),
                         [("0", (4,)), ("B", (3,)), ("a", (1, 3)), ("b", (1, 2, 4)), ("zz", (2,))])
        self.assertEqual(self.answer(index_of, matter_of([(), ()]), ((1, 1), (), ())), [])

    def test_each_page_once_and_ascending(self):
        matter = matter_of([("a",)] * 4, [("a",)] * 2, [("a",)] * 3)
        self.assertEqual(self.answer(index_of, matter, ((2, 2, 9, 10), (1, 9), (3, 3, 11))), [("a", (1, 2, 3, 9, 10, 11))])

    def test_words_are_ordered_by_their_characters(self):
        words = ("ab", "a", "A", "b", "a1", "_", "~", "10", "9", "Z")
        matter = matter_of([words])
        self.assertEqual([word for word, _ in index_of(matter, ((1,), (), ()))], sorted(words))

    def test_of_a_text(self):
        sheet = rich_sheet(height=60)
        text = ("\\head{one\\mark{h}}two\\mark{p}\\note{three\\mark{n}\\mark{p}}\\float{30}{\\mark{f}}\\float{20}{four\\mark{p}}\n\n"
                "\\table{20 30}{a & \\mark{c} \\\\ b\\mark{d} & \\note{\\mark{n}five}}\\newpage\\head{six\\mark{p}}\\newpage\\quote{end\\mark{h}}")
        matter = build_matter(Works(sheet), blocks_of(text))
        way, _ = solve(page_task(sheet, matter))
        numbers = page_numbers(way)
        contents, index = self.answer(contents_of, matter, numbers), self.answer(index_of, matter, numbers)
        pages = {}
        for things, row in zip((matter.units, matter.floats, matter.lines), numbers):
            for thing, page in zip(things, row):
                for word in thing.marks:
                    pages.setdefault(word, set()).add(page)
        self.assertEqual(index, [(word, tuple(sorted(pages[word]))) for word in sorted(pages)])
        self.assertEqual([word for word, _ in index], ["c", "d", "f", "h", "n", "p"])
        self.assertEqual(contents, [(n, numbers[0][first]) for n, first, _ in matter.heads])
        self.assertGreater(len(dict(index)["p"]), 2)


class BackTest(Case):

    def back(self, sheet, text, contents=None, index=()):
        resolved = blocks_of(text)
        if contents is None:
            contents = [(block[1], 1) for block in resolved if block[0] == "head"]
        found = self.answer(back_matter, Works(sheet), resolved, list(contents), list(index))
        self.assertIsInstance(found, Matter)
        self.assertEqual((found.floats, found.lines, found.heads), ([], [], []))
        self.assertEqual([(unit.notes, unit.marks) for unit in found.units], [((), ())] * len(found.units))
        return found

    def check_entry(self, sheet, units, record, inlines, block):
        """The units and the record are those of the inlines, set with the style "back"."""
        style = sheet.style_of("back")
        solids, joints, _ = solids_of(style, inlines)
        found = Works(sheet).paragraph("back", style.measure, solids, joints, block)
        self.assertEqual([unit.box for unit in units], [("unit", sheet.measure, line[2], line[3], ((style.left, 0, line),)) for line in found.boxes])
        self.assertEqual([unit.height for unit in units], [line[2] + line[3] for line in found.boxes])
        self.assertEqual([unit.gap for unit in units], [style.ahead] + [style.between] * (len(units) - 1))
        self.assertEqual([unit.block for unit in units], [block] * len(units))
        self.assertEqual(record, ("back", block, found.way, found.paper))

    def entry(self, text, inlines, block=1, page=1):
        """The only entry of the contents of a text."""
        sheet = rich_sheet()
        found = self.back(sheet, text, [(1, page)])
        full = (("word", "1."), ("tie",)) + inlines + (("gap",), ("word", str(page)))
        self.assertEqual(len(found.records), 1)
        self.check_entry(sheet, found.units, found.records[0], full, block)

    def test_nothing(self):
        found = self.back(demo_sheet(), "a\\mark{b}")
        self.assertEqual((found.told(), found.records), (((), (), ()), []))

    def test_entries_of_heads(self):
        a, gap = ("word", "a"), ("gap",)
        for text, inlines in (
            ("\\head{a}", (a,)), ("\\head{a a}", (a, gap, a)), ("\\head{a~a}", (a, ("tie",), a)), ("\\head{a\\-a}", (a, ("hyph",), a)),
            ("\\head{a\\\\a}", (a, gap, a)), ("\\head{a \\\\ a}", (a, gap, gap, gap, a)), ("\\head{\\strong{a\\\\\\strong{a\\\\a}}}", (("strong", (a, gap, ("strong", (a, gap, a)))),)),
            ("\\head{a\\mark{q}b}", (a, ("word", "b"))), ("\\head{a\\note{b}c}", (a, ("word", "c"))), ("\\head{\\strong{a\\note{b\\mark{q}}\\mark{q}a}}", (("strong", (a, a)),)),
            ("\\head{a\\label{x} \\ref{x}}", (a, gap, ("word", "1"))), ("\\head{\\note{a}}", ()), ("\\head{a \\note{a}}", (a, gap)), ("\\head{\\strong{\\note{a}}\\mark{x}}", (("strong", ()),)),
        ):
            with self.subTest(text):
                self.entry(text, inlines)

    def test_formulas_in_heads(self):
        row = blocks_of("$x^2$")[0][1][0][1]
        self.entry("\\head{a $x^2$}", (("word", "a"), ("gap",), ("formula", row)))

    def test_page_numbers_in_heads(self):
        for page in (1, 12, 345):
            self.entry("\\head{a}", (("word", "a"),), page=page)

    def test_the_blocks_of_heads(self):
        self.entry("a\n\n\\newpage\\head{b}c", (("word", "b"),), block=3)

    def test_several_heads(self):
        sheet = rich_sheet()
        found = self.back(sheet, "\\head{a}b\\head{c}\\float{3}{}\\head{d}", [(1, 1), (2, 4), (3, 17)])
        self.assertEqual([unit.block for unit in found.units], [1, 3, 5])
        self.assertEqual([record[:2] for record in found.records], [("back", 1), ("back", 3), ("back", 5)])
        for k, (number, letter, page) in enumerate(((1, "a", 1), (2, "c", 4), (3, "d", 17))):
            inlines = (("word", "%d." % number), ("tie",), ("word", letter), ("gap",), ("word", str(page)))
            self.check_entry(sheet, found.units[k:k + 1], found.records[k], inlines, 2 * k + 1)

    def test_entries_of_the_index(self):
        sheet = rich_sheet()
        for pages in ((1,), (1, 2), (3, 10, 200)):
            found = self.back(sheet, "b\\mark{word}", index=[("word", pages)])
            inlines = (("word", "word"),) + tuple(part for page in pages for part in (("gap",), ("word", str(page))))
            self.check_entry(sheet, found.units, found.records[0], inlines, 1)

    def test_the_blocks_of_the_index(self):
        text = ("\\newpage a\n\na\\strong{\\mark{s}}\\head{b\\note{c\\mark{n}}\\mark{n}}\\table{20 30}{a & \\mark{c} \\\\ \\note{x\\mark{cn}} & b\\mark{s}}\\float{3}{\\mark{f}}"
                "\\item{b\\mark{f}\\mark{i}}\\quote{\\mark{q}a\\note{\\mark{zz}a}}\\quote{\\mark{q}\\mark{n}\\mark{zz}a}")
        words = {"s": 3, "n": 4, "c": 5, "cn": 5, "f": 6, "i": 7, "q": 8, "zz": 8}
        found = self.back(rich_sheet(), text, index=[(word, (1,)) for word in sorted(words)])
        self.assertEqual([record[:2] for record in found.records], [("back", 4)] + [("back", words[word]) for word in sorted(words)])

    def test_the_contents_stand_ahead_of_the_index(self):
        found = self.back(rich_sheet(), "\\mark{b}a\\head{a\\mark{a}}", index=[("a", (1,)), ("b", (1,))])
        self.assertEqual([record[1] for record in found.records], [2, 2, 1])

    def test_costs(self):
        sheet = demo_sheet({"back": {"measure": 8}})
        # The words of an index entry stand one on each line.
        for count, costs in ((1, [0, 150]), (2, [0, 150, 150]), (3, [0, 150, 0, 150]), (5, [0, 150, 0, 0, 0, 150])):
            found = self.back(sheet, "a\\mark{ab}", index=[("ab", tuple(range(1111, 1111 + count)))])
            self.assertEqual([unit.cost for unit in found.units], costs)
        found = self.back(demo_sheet(), "a\\mark{ab}\\mark{a}", index=[("a", (1,)), ("ab", (1,))])
        self.assertEqual([unit.cost for unit in found.units], [0, 0])

    def test_gaps(self):
        sheet = demo_sheet({"back": {"measure": 8, "ahead": (1, 2, 1), "between": (2, 3, 2)}})
        found = self.back(sheet, "a\\mark{ab}\\mark{b}", index=[("ab", (1111,)), ("b", (1111, 2222))])
        self.assertEqual([unit.gap.plain() for unit in found.units], [(1, 2, 1), (2, 3, 2), (1, 2, 1), (2, 3, 2), (2, 3, 2)])

    def refused_back(self, error, sheet, text, index=()):
        resolved = blocks_of(text)
        contents = [(block[1], 1) for block in resolved if block[0] == "head"]
        self.refused(error, back_matter, Works(sheet), resolved, contents, list(index))

    def test_errors(self):
        # The index shows words that the text does not; the style "back" has a font of its own.
        self.refused_back(NoSign("x", 2), demo_sheet(), "a\n\na\\mark{ax}", [("ax", (1,))])
        sheet = rich_sheet({"back": {"measure": 13, "indent": 0}})
        self.refused_back(TooWide(1), sheet, "\\head{$a+b+c+d$}")
        self.refused_back(NoSign("x", 1), demo_sheet(), "\\head{ax}")

    def test_errors_entry_by_entry(self):
        text = "\\head{a\\mark{y}}\\mark{x}a\\head{$aaaaaaa$}"
        self.refused_back(TooWide(3), demo_sheet(), text, [("x", (1,)), ("y", (1,))])
        self.refused_back(NoSign("x", 2), demo_sheet(), "\\head{a\\mark{y}}\\mark{x}a\\head{$a$}", [("x", (1,)), ("y", (1,))])
        self.refused_back(NoSign("z", 1), demo_sheet(), "\\head{z}\\head{$aaaaaaa$}")
        self.refused_back(NoSign("z", 1), demo_sheet(), "\\head{$aaaaaaa$z}")

    def test_too_tall(self):
        self.back(demo_sheet(height=7), "\\head{a}")
        self.refused_back(TooTall(1), demo_sheet(height=6), "\\head{a}")
        # TooTall comes behind the other errors of its entry, but ahead of those of the next one.
        self.refused_back(NoSign("z", 1), demo_sheet(height=6), "\\head{a z}")
        self.refused_back(TooTall(1), demo_sheet(height=6), "\\head{a}\\head{z}")
        self.refused_back(TooTall(2), demo_sheet(height=6), "b\n\na\\mark{b}", [("b", (1,))])
        sheet = rich_sheet(height=12)
        tall = "\\head{a $\\over{\\over{a}{b}}{\\over{a}{b}}$}"
        self.refused_back(TooTall(1), sheet, tall)

    def test_random_texts(self):
        sheet = rich_sheet()
        for text, setting in accepted_texts(sheet, 54, 20, 12):
            resolved = blocks_of(text)
            works = Works(sheet)
            found = self.answer(back_matter, works, resolved, setting.heads_told, setting.marks_told)
            self.assertEqual(found.told(), setting.back.told())
            self.assertEqual(found.records, setting.back.records)
            self.assertEqual(len(found.records), len(setting.heads_told) + len(setting.marks_told))


if __name__ == "__main__":
    unittest.main()
