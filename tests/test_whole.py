"""The whole program: [1], [2], [27], [47], [50], [55] and [56] on texts of all kinds."""

import unittest

from galleywork.desk import Desk
from galleywork.devwrite import device_text, page_ink
from galleywork.galleys import Galley
from galleywork.kept import Kept
from galleywork.listing import show_pages
from galleywork.macros import expand
from galleywork.setting import fresh
from galleywork.tokens import tokenize, written
from helper import Case, demo_sheet, rich_sheet
from texts import Checks, TextMaker, accepted_texts

LONG = "One banana table, two offices at the end; " * 30
TEXTS = {
    "empty": "", "blanks": " \n\n ", "new pages alone": "\\newpage\\newpage", "one letter": "a", "one head": "\\head{One}", "floats alone": "\\float{9}{a}\\float{80}{}\\float{1}{\\mark{b}}",
    "macros": "\\let\\x1{\\strong{#1}, #1}\\let\\y0{$x^2$}\\x{one \\y} two \\x{\\y\\y}\n\n\\let\\y0{end}\\y\\note{\\x{\\y}}",
    "references": "\\head{One\\label{a}}\\item{two\\label{b}}\\item{\\ref{a} \\ref{b}\\label{c}}\\float{3}{See \\ref{c}\\label{d}}\\ref{d}\\note{a\\label{e}}~\\ref{e}",
    "many notes": "a" + "\\note{one banana}" * 12 + " b" + "\\note{two offices}" * 9, "long notes": "one\\note{" + LONG[:700] + "} two\\note{" + LONG[:500] + "} three",
    "long paragraph": LONG, "long word": "banana" * 60, "long head": "\\head{" + LONG[:300] + "}" + LONG[:200], "tables": "\\table{12 12 12}{" + "\\\\".join(["a & one two & $x$"] * 20) + "}",
    "marks without solids": "\\table{20 30}{\\mark{a} & \\\\ & \\mark{b}}\\float{8}{\\mark{c}}a", "formulas": "$x^{y^{z}}_{a_b}$ \\display{\\fence{[)}{\\grid{a & b \\\\ \\over{c}{d} & }}=\\root{\\root{x+y}}-z}",
    "cuts and ties": "one\\\\two~three\\\\\\strong{four}~\\strong{five\\-six}\\\\seven", "heads one after another": "\\head{a}\\head{b}\\head{c}\\newpage\\head{d}\\float{9}{}\\head{e}",
    "signs": "+-*/=<>()[],;.:!?'\"`@|a", "joins": "fin office off-f t-t tt ffi \\strong{tt}t", "notes in all places": (
        "\\head{a\\note{b}}\\item{a\\note{b}}\\quote{a\\note{b}}\\table{20 30}{a\\note{b} & \\note{c} \\\\ & d\\note{e}}\\strong{a\\strong{b\\note{c}}}"),
}


class WholeTest(Checks, Case):

    def check(self, sheet, setting):
        self.check_letters(setting)
        self.check_pages(sheet, setting)
        self.check_records(sheet, setting)

    def test_texts_of_all_kinds(self):
        for changes in ({}, {"height": 45, "float_gap": 0, "rule": 3}, {"height": 500, "floats": 9}):
            sheet = rich_sheet(**changes)
            for name, text in TEXTS.items():
                with self.subTest((name, changes)):
                    if "\\float{80}" in text and sheet.height == 45:
                        text = text.replace("80", "45")
                    self.check(sheet, fresh(sheet, text))

    def test_random_texts(self):
        for seed, changes in enumerate(({}, {"height": 60}, {"height": 200, "floats": 1}, {"height": 50, "rule": 4, "float_gap": 0}, {"height": 10000})):
            sheet = rich_sheet(**changes)
            for text, setting in accepted_texts(sheet, 300 + seed, 12, 14):
                with self.subTest((changes, text)):
                    self.check(sheet, setting)

    def test_random_sheets(self):
        aligns = ("full", "left", "centre", "right")
        for seed in range(8):
            dice = TextMaker(320 + seed).dice
            styles = {name: {"align": dice.pick(aligns), "ahead": (3, dice.below(4), dice.below(4)), "between": (2, dice.below(3), dice.below(3))}
                      for name in ("par", "head", "item", "quote", "display", "note", "caption", "cell", "back")}
            sheet = rich_sheet(styles, height=40 + dice.below(80), floats=1 + dice.below(3))
            for text, setting in accepted_texts(sheet, 330 + seed, 4, 12):
                with self.subTest((seed, text)):
                    self.check(sheet, setting)

    def test_macros_written_out(self):
        sheet = rich_sheet()
        text = TEXTS["macros"]
        one, two = fresh(sheet, text), fresh(sheet, written(expand(tokenize(text))))
        self.assertEqual((one.blocks, one.page_boxes, one.records), (two.blocks, two.page_boxes, two.records))


class SessionTest(Case):
    """After any calls all answers are those of a fresh setting."""

    def test_a_long_session(self):
        sheet = rich_sheet()
        galley = Galley(sheet, TEXTS["notes in all places"], kept=Kept(sheet))
        for name, text in TEXTS.items():
            galley.put_text(text)
            setting = fresh(sheet, text)
            self.assertEqual((galley.pages(), galley.papers(), galley.contents(), galley.index_rows(), galley.device()),
                             (list(setting.page_boxes), setting.records, setting.heads_told, setting.marks_told, device_text(setting.page_boxes)), name)
            self.assertEqual(show_pages(galley.pages()), show_pages(setting.page_boxes))
        while galley.undo():
            pages = fresh(sheet, galley.text).page_boxes
            self.assertEqual((galley.pages(), galley.page_count), (list(pages), len(pages)))

    def test_typing(self):
        sheet = rich_sheet()
        galley = Galley(sheet, "One two three")
        for at, char in enumerate("abba, banana office "):
            self.assertEqual(galley.edit(at, put=char)[:3], (1, 0, 0))
            self.assertEqual(galley.pages(), list(fresh(sheet, galley.text).page_boxes))

    def test_an_edit_at_the_front_of_a_long_text(self):
        sheet = rich_sheet()
        text = "\n\n".join("Paragraph " + str(k) + " one banana at the end." for k in range(60))
        galley = Galley(sheet, text)
        self.assertEqual(galley.work()[:3], (60, 0, 0))
        paragraphs, displays, formulas, states = galley.edit(0, put="A new paragraph.\n\n")
        self.assertEqual((paragraphs, displays, formulas), (1, 0, 0))
        self.assertLessEqual(states, 2)
        self.assertEqual(galley.papers(), fresh(sheet, galley.text).records)

    def test_calls_do_not_bear_on_each_other(self):
        sheet = demo_sheet()
        before = fresh(sheet, "\\head{ab} b\\mark{a}")
        desk = Desk(sheet)
        desk.put("x", "a\\note{b}")
        fresh(rich_sheet(), TEXTS["formulas"])
        after = fresh(sheet, "\\head{ab} b\\mark{a}")
        self.assertEqual((before.page_boxes, before.records, page_ink(before.page_boxes)), (after.page_boxes, after.records, page_ink(after.page_boxes)))


if __name__ == "__main__":
    unittest.main()
