"""Writing back: [12]."""

import unittest

from galleywork.reading import read_text
from galleywork.writing import write_blocks, write_inlines
from helper import Case, Dice
from test_inlines import FORMS as INLINES
from test_inlines import read
from test_reading import FORMS as BLOCKS

WRITTEN = (
    ("", ""),
    ("  \n\n", ""),
    (" a\n b ", "a b"),
    ("a~b\\-c\\\\d", "a~b\\-c\\\\d"),
    ("a\n\n\n b", "a\n\nb"),
    ("\\head{ a }b", "\\head{a}\n\nb"),
    ("\\item{a}\\quote{b}", "\\item{a}\n\n\\quote{b}"),
    ("\\display{ x _1^2 + \\fence{(.}{y} }", "\\display{x^2_1+\\fence{(.}{y}}"),
    ("\\display{{a}{ }}", "\\display{{a}{}}"),
    ("a$ b $c", "a$b$c"),
    ("$$", "$$"),
    ("\\strong{ a }", "\\strong{ a }"),
    ("a\\note{ b }", "a\\note{b}"),
    ("\\label{s}a\\ref{s}\\mark{m}", "\\label{s}a\\ref{s}\\mark{m}"),
    ("\\table{ 5\n10 }{a&b\\\\c&}", "\\table{5 10}{a & b \\\\ c & }"),
    ("\\table{5 5 5}{a&&b}", "\\table{5 5 5}{a &  & b}"),
    ("\\table{5 5 5}{&&}", "\\table{5 5 5}{ &  & }"),
    ("\\table{5}{}", "\\table{5}{}"),
    ("\\table{5}{\\\\}", "\\table{5}{ \\\\ }"),
    ("\\table{5}{a\\\\\\\\b}", "\\table{5}{a \\\\  \\\\ b}"),
    ("\\float{ 7 }{ a b }", "\\float{7}{a b}"),
    ("\\float{7}{}", "\\float{7}{}"),
    ("a\\newpage b\\newpage", "a\n\n\\newpage\n\nb\n\n\\newpage"),
    ("\\let\\x1{<#1>}\\x{a}\\let\\y0{ }\\y \\y b", "<a> b"),
    ("$\\grid{a&&\\\\&b&c}$", "$\\grid{a &  &  \\\\  & b & c}$"),
    ("$\\grid{}\\over{}{a}\\root{b}$", "$\\grid{}\\over{}{a}\\root{b}$"),
)


class WriteTest(Case):

    def test_nothing(self):
        self.assertEqual(write_inlines(()), "")
        self.assertEqual(write_blocks([]), "")

    def test_blocks(self):
        for text, expected in WRITTEN:
            with self.subTest(text):
                self.assertEqual(self.answer(write_blocks, read_text(text)), expected)

    def test_inlines(self):
        for text, expected in (
            (" ", " "), (" a ", " a "), ("\n~\n", " ~ "), ("a\\-b\\\\", "a\\-b\\\\"), ("\\strong{\\strong{ }}", "\\strong{\\strong{ }}"),
            ("\\note{ a }", "\\note{a}"), (" \\label{s}\\ref{t}\\mark{u} ", " \\label{s}\\ref{t}\\mark{u} "),
            ("$x_1^{2}$", "$x^{2}_1$"), ("\\strong{$a$\\note{b}}", "\\strong{$a$\\note{b}}"),
        ):
            with self.subTest(text):
                self.assertEqual(self.answer(write_inlines, read(text)), expected)

    def test_inlines_by_hand(self):
        self.assertEqual(write_inlines((("gap",), ("word", "a"), ("gap",))), " a ")
        self.assertEqual(write_inlines((("strong", ()), ("note", (("word", "a"),)))), "\\strong{}\\note{a}")

    def test_reading_what_was_written(self):
        for text, inlines in INLINES:
            with self.subTest(text):
                written = write_inlines(inlines)
                self.assertEqual(read(written), inlines)
                self.assertEqual(write_inlines(read(written)), written)
        for text, blocks in BLOCKS:
            with self.subTest(text):
                written = write_blocks(blocks)
                self.assertEqual(read_text(written), blocks)
                self.assertEqual(write_blocks(read_text(written)), written)

    def test_written_texts_stay(self):
        for text, expected in WRITTEN:
            with self.subTest(text):
                self.assertEqual(read_text(expected), read_text(text))
                self.assertEqual(write_blocks(read_text(expected)), expected)

    def test_any_text(self):
        dice = Dice(4)
        for _ in range(300):
            text = "".join(any_block(dice) + dice.pick(["", " ", "\n\n", "\n \n\n"]) for _ in range(dice.below(5)))
            with self.subTest(text):
                blocks = read_text(text)
                written = write_blocks(blocks)
                self.assertEqual(read_text(written), blocks)
                self.assertEqual(write_blocks(read_text(written)), written)


def any_inside(dice, depth, notes):
    """The text of some inlines, a solid first."""
    parts = ["a", " ", "~", "\\-", "1.", "$x^2_{a}$", "$$", "\\mark{m}", "  "]
    text = dice.pick(["b", "$\\root{ a }$", " c"])
    for _ in range(dice.below(5)):
        if depth > 0 and dice.below(3) == 0:
            text += "\\strong{" + any_inside(dice, depth - 1, notes) + "}"
        elif notes and dice.below(6) == 0:
            text += "\\note{" + any_inside(dice, depth, False) + "}"
        else:
            text += dice.pick(parts)
    return text


def any_block(dice):
    """The text of some block, without labels and refs."""
    kind = dice.below(7)
    if kind < 3:
        name = dice.pick(["head", "item", "quote"])
        return "\\" + name + "{" + any_inside(dice, 2, True) + "}"
    if kind == 3:
        columns = 1 + dice.below(3)
        cells = [dice.pick(["", " ", any_inside(dice, 1, True)]) for _ in range(2 * columns)]
        rows = ["&".join(cells[:columns]), " & ".join(cells[columns:])]
        return "\\table{" + " 5" * columns + "}{" + "\\\\".join(rows) + "}"
    if kind == 4:
        return "\\float{3}{" + dice.pick(["", any_inside(dice, 2, False)]) + "}"
    if kind == 5:
        return dice.pick(["\\newpage", "\\display{a+\\grid{a&\\\\&b}_2}", "\\display{ \\fence{[.}{\\over{a}{}} }"])
    return dice.pick(["\n\n", "\n\n "]) + any_inside(dice, 2, True) + "\n\n"


if __name__ == "__main__":
    unittest.main()
