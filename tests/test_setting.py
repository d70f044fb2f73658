"""Setting a text: [55], with [27] and [52] to [54]."""

import unittest

from galleywork.backmatter import back_matter, contents_of, index_of, page_numbers
from galleywork.build import build_matter
from galleywork.devwrite import device_text, page_ink
from galleywork.errors import BadText, NoSign, TooLong, TooTall, TooWide
from galleywork.judging import judge
from galleywork.kept import Kept
from galleywork.pagetask import PageTask
from galleywork.placed import page_boxes
from galleywork.reading import read_text
from galleywork.setting import Setting, fresh, page_task, set_text
from galleywork.sheet import Sheet
from galleywork.tails import Tails
from galleywork.units import Matter
from galleywork.ways import reached, solve
from galleywork.works import Works
from helper import Case, blocks_of, book_of, demo_sheet, laid_open, rich_sheet, told_font, told_styles
from texts import Checks, accepted_texts

DEMO = "\\head{ab} b\\mark{a}"


def parts_of(setting):
    """All parts of a setting that do not depend on what was kept."""
    return laid_open([getattr(setting, name) for name in (
        "source", "blocks", "matter", "way", "paper", "back", "back_way", "back_paper", "heads_told", "marks_told", "records", "page_boxes")])


class ExampleTest(Case):

    def test_example(self):
        sheet = demo_sheet()
        setting = self.answer(fresh, sheet, DEMO)
        self.assertIsInstance(setting, Setting)
        self.assertEqual(setting.heads_told, [(1, 1)])
        self.assertEqual(setting.marks_told, [("a", (1,))])
        self.assertEqual(len(setting.page_boxes), 2)
        self.assertEqual(setting.records[3], ("back", 1, ((0, 1), (5, 1)), (((0, 1), 100), ((4, 3), 3100), ((5, 1), 0))))
        self.assertEqual((len(setting.paper), len(setting.back_paper), setting.states), (3, 3, 6))
        self.assertEqual([unit.height for unit in setting.matter.units], [7, 7])
        self.assertEqual([ink for ink in page_ink(setting.page_boxes) if ink[1] == 1],
                         [("sign", 1, 1, 5, "f", "a"), ("sign", 1, 3, 5, "f", "b"), ("sign", 1, 3, 12, "f", "b")])
        device = device_text(setting.page_boxes).split("\n")
        self.assertEqual(" | ".join(device[:device.index("page 2")]), (
            "page 1 | push | down 5 | push | right 1 | push | font f | put a | right -1 | put b | pop | pop | pop | push | down 12 | push | right 1 | push"
            " | right 2 | font f | put b | pop | pop | pop"))
        self.assertEqual([record[:2] for record in setting.records],
                         [("head", 1), ("par", 2), ("pages", 0), ("back", 1), ("back", 2), ("backpages", 0)])


class FieldTest(Checks, Case):

    def test_fields(self):
        sheet = rich_sheet()
        text = "\\head{One\\mark{x}}two\\note{three\\mark{y}}\\float{9}{four}\\newpage five"
        setting = self.answer(fresh, sheet, text)
        resolved = blocks_of(text)
        works = Works(sheet)
        self.assertEqual((setting.source, setting.blocks), (text, read_text(text)))
        matter = build_matter(works, resolved)
        self.assertEqual(laid_open(setting.matter), laid_open(matter))
        task = page_task(sheet, matter)
        self.assertEqual((setting.way, setting.paper), solve(task))
        numbers = page_numbers(setting.way)
        self.assertEqual((setting.heads_told, setting.marks_told), (contents_of(matter, numbers), index_of(matter, numbers)))
        back = back_matter(works, resolved, setting.heads_told, setting.marks_told)
        self.assertEqual(laid_open(setting.back), laid_open(back))
        back_task = page_task(sheet, back)
        self.assertEqual((setting.back_way, setting.back_paper), solve(back_task))
        self.assertEqual(setting.page_boxes, tuple(page_boxes(sheet, matter, task, setting.way) + page_boxes(sheet, back, back_task, setting.back_way)))
        self.assertEqual(setting.records, matter.records + [("pages", 0, setting.way, setting.paper)] + back.records + [("backpages", 0, setting.back_way, setting.back_paper)])
        self.assertEqual(setting.states, len(setting.paper) + len(setting.back_paper))
        for tails, one in ((setting.tails, task), (setting.back_tails, back_task)):
            self.assertIsInstance(tails, Tails)
            self.assertEqual((tails.units, tails.floats, tails.lines), (one.units, one.floats, one.lines))
            self.assertEqual(len(tails.table), len(reached(one)))
        for name, kind in (("source", str), ("blocks", list), ("matter", Matter), ("way", tuple), ("paper", tuple), ("back", Matter), ("back_way", tuple),
                           ("back_paper", tuple), ("heads_told", list), ("marks_told", list), ("records", list), ("page_boxes", tuple), ("states", int)):
            self.assertIs(type(getattr(setting, name)), kind)

    def test_the_empty_text(self):
        for text in ("", "  \n\n ", "\\let\\x0{a}", "\\newpage\\newpage"):
            setting = self.answer(fresh, demo_sheet(), text)
            self.assertEqual((setting.page_boxes, setting.heads_told, setting.marks_told), ((), [], []))
            self.assertEqual((setting.way, setting.paper), (((0, 0, 0),), (((0, 0, 0), 0),)))
            self.assertEqual((setting.back_way, setting.back_paper), (((0, 0, 0),), (((0, 0, 0), 0),)))
            self.assertEqual(setting.records, [("pages", 0, setting.way, setting.paper), ("backpages", 0, setting.back_way, setting.back_paper)])
            self.assertEqual(setting.states, 2)

    def test_without_heads_and_marks(self):
        setting = fresh(demo_sheet(), "a b\n\nb\\note{a}")
        self.assertEqual(setting.back.told(), ((), (), ()))
        self.assertEqual(len(setting.page_boxes), len(setting.way) - 1)
        self.assertEqual([record[0] for record in setting.records], ["par", "par", "note", "pages", "backpages"])

    def test_page_task(self):
        for changes in ({}, {"height": 77}, {"floats": 3}, {"rule": 5}, {"float_gap": 9}, {"column_gap": 9}):
            sheet = rich_sheet(**changes)
            matter = build_matter(Works(sheet), blocks_of("one\\note{two}\\float{9}{}\\float{9}{}\\float{9}{}three"))
            task = self.answer(page_task, sheet, matter)
            self.assertIsInstance(task, PageTask)
            told = matter.told()
            other = PageTask(*told, height=sheet.height, floats_a_page=sheet.floats, rule=sheet.rule, float_gap=sheet.float_gap)
            self.assertEqual((task.units, task.floats, task.lines), told)
            self.assertEqual(solve(task), solve(other))
            self.assertEqual(task.steps((0, 0, 0)), other.steps((0, 0, 0)))
            self.assertEqual(task.page_glue((0, 0, 0), (0, 1, 1)).natural, 9 + sheet.float_gap + sheet.rule + matter.lines[0].height)

    def test_page_numbers_go_on(self):
        sheet = demo_sheet({"head": {"between": (0, 0, 0)}}, height=10)
        setting = fresh(sheet, "\\head{a}b\\mark{b} b b b b b b b")
        count = len(setting.way) - 1
        self.assertGreater(count, 2)
        self.assertGreater(len(setting.page_boxes), count + 1)
        self.assertEqual(max(ink[1] for ink in page_ink(setting.page_boxes)), len(setting.page_boxes))

    def test_what_is_returned_may_change(self):
        sheet = demo_sheet()
        setting = fresh(sheet, DEMO)
        before = parts_of(setting)
        other = set_text(Works(sheet), DEMO, setting.tails, setting.back_tails)
        for row in (other.blocks, other.heads_told, other.marks_told, other.records, other.matter.units, other.matter.records):
            row.clear()
        self.assertEqual(parts_of(setting), before)
        self.assertEqual(parts_of(fresh(sheet, DEMO)), before)


class ErrorTest(Case):

    def test_each_stage(self):
        for text, error in (
            ("a" * 6001, TooLong("text")), ("a{", BadText(1, 2, "open")), ("\\ref{x}", BadText(1, 1, "reference")), ("a\n\\foo", BadText(2, 1, "undefined")), ("a\n\nx", NoSign("x", 2)),
            ("$aaaaaaaa$", TooWide(1)), ("\\float{30}{}", TooTall(1)), ("a\\note{y}", NoSign("y", 1)), ("a\\mark{ax}", NoSign("x", 1)), ("b\n\na\\mark{$}", BadText(3, 2, "word")),
        ):
            with self.subTest(text[:20]):
                self.refused(error, fresh, demo_sheet(), text)
                for works in (Works(demo_sheet()), Kept(demo_sheet())):
                    for _ in range(2):
                        with self.assertRaises(type(error)) as caught:
                            set_text(works, text, Tails.none(), Tails.none())
                        self.assertEqual(vars(caught.exception), vars(error))

    def test_the_first_error_ends_the_setting(self):
        self.refused(BadText(3, 1, "undefined"), fresh, demo_sheet(), "x\n\n\\foo")
        self.refused(BadText(1, 7, "reference"), fresh, demo_sheet(), "x x x \\ref{a}")
        self.refused(NoSign("z", 2), fresh, demo_sheet(), "a\\mark{ax}\n\nz")
        # In the back matter: the head is set in lines of another measure.
        sheet = demo_sheet({"back": {"measure": 8}})
        self.refused(TooWide(1), fresh, sheet, "\\head{$aab$}b\\mark{x}")
        self.refused(NoSign("x", 2), fresh, sheet, "\\head{$aa$} b\\mark{x}")

    def test_back_matter_that_is_too_tall(self):
        # Only the entry, with the font g, is too high for a page.
        book = book_of(told_font("f", {"a": 3}, above=5, below=2), told_font("g", {"a": 3}, above=20, below=10))
        for height, found in ((30, True), (29, False)):
            sheet = Sheet(book, 40, height, told_styles(back={"font": "g"}))
            if found:
                self.assertEqual(len(fresh(sheet, "a\n\na\\mark{a}").page_boxes), 2)
            else:
                self.refused(TooTall(2), fresh, sheet, "a\n\na\\mark{a}")


class AskedTest(Case):
    """Each paragraph and each display is asked of the Works, and no others are."""

    def test_what_is_asked(self):
        class Listening(Works):
            def __init__(self, sheet):
                super().__init__(sheet)
                self.asked = []

            def paragraph(self, style, measure, solids, joints, block):
                self.asked.append((style, block))
                return super().paragraph(style, measure, solids, joints, block)

            def display(self, row, block):
                self.asked.append(("display", block))
                return super().display(row, block)

        sheet = rich_sheet()
        for text, setting in accepted_texts(sheet, 55, 10, 10):
            works = Listening(sheet)
            set_text(works, text, Tails.none(), Tails.none())
            self.assertEqual(works.asked, [record[:2] for record in setting.records if record[0] not in ("pages", "backpages")])


class AgreeTest(Case):

    def test_settings_of_one_text(self):
        sheet = rich_sheet()
        kept = Kept(sheet)
        tails, back_tails = Tails.none(), Tails.none()
        for text, setting in accepted_texts(sheet, 56, 25, 10):
            expected = parts_of(setting)
            self.assertEqual(setting.states, len(setting.paper) + len(setting.back_paper))
            for works in (Works(sheet), Kept(sheet), kept):
                for one, two in ((Tails.none(), Tails.none()), (tails, back_tails)):
                    found = set_text(works, text, one, two)
                    self.assertEqual(parts_of(found), expected)
                    self.assertLessEqual(found.states, setting.states)
            again = set_text(kept, text, found.tails, found.back_tails)
            self.assertEqual((parts_of(again), again.states), (expected, 0))
            tails, back_tails = found.tails, found.back_tails

    def test_worked_states(self):
        sheet = demo_sheet()
        one = fresh(sheet, "a\n\nb\n\na")
        self.assertEqual(one.states, 5)
        two = set_text(Works(sheet), "bb\n\na\n\nb\n\na", one.tails, one.back_tails)
        self.assertEqual(two.states, 1)
        three = set_text(Works(sheet), "a\n\nb", two.tails, two.back_tails)
        self.assertEqual(three.states, 0)
        four = set_text(Works(sheet), "a\n\nb\n\n\\quote{b b b b b b}", three.tails, three.back_tails)
        # Only the entries of the two ends hold, and that of the last line.
        self.assertEqual(four.states, len(four.paper) - 1)

    def test_errors_agree(self):
        sheet = demo_sheet()
        kept = Kept(sheet)
        one = fresh(sheet, DEMO)
        for text, error in (("a\n\nx", NoSign("x", 2)), ("$aaaaaaaa$", TooWide(1)), ("a\\mark{x}", NoSign("x", 1))):
            for works in (Works(sheet), kept, kept):
                with self.assertRaises(type(error)) as caught:
                    set_text(works, text, one.tails, one.back_tails)
                self.assertEqual(vars(caught.exception), vars(error))

    def test_the_judge(self):
        sheet = rich_sheet()
        for _, setting in accepted_texts(sheet, 57, 8, 10):
            task = page_task(sheet, setting.matter)
            self.assertIs(judge(task, setting.way, setting.paper), True)


if __name__ == "__main__":
    unittest.main()
