"""The written form of formulas: [12]."""

import unittest

from galleywork.formwrite import write_formula
from helper import Case, Dice
from test_formread import FORMS, read, row, script, sign

WRITTEN = (
    ("", ""), ("ab1+", "ab1+"), (" a  b\n", "ab"), ("{ a }b{ {c}}", "{a}b{{c}}"),
    ("\\over{ a b }{}", "\\over{ab}{}"), ("\\root{ a}", "\\root{a}"), ("\\root{{a}}", "\\root{{a}}"),
    ("\\fence{()}{ a}", "\\fence{()}{a}"), ("\\fence{..}{}", "\\fence{..}{}"), ("\\fence{.]}{a}", "\\fence{.]}{a}"),
    ("\\fence{[.}{a}", "\\fence{[.}{a}"),
    ("\\grid{}", "\\grid{}"), ("\\grid{a&b\\\\c&d}", "\\grid{a & b \\\\ c & d}"), ("\\grid{a&&b}", "\\grid{a &  & b}"),
    ("\\grid{&}", "\\grid{ & }"), ("\\grid{\\\\}", "\\grid{ \\\\ }"), ("\\grid{&\\\\&}", "\\grid{ &  \\\\  & }"),
    ("x_d^u", "x^u_d"), ("x _ {d}", "x_{d}"), ("x^{u}", "x^{u}"), ("x^u_{}", "x^u_{}"), ("{x^2}^3", "{x^2}^3"),
    ("x^12", "x^12"), ("x_\\root{a}^\\over{b}{c}d", "x^\\over{b}{c}_\\root{a}d"), ("\\root{a} b", "\\root{a}b"),
)


def any_tree(dice, depth):
    """Some tree that is no script."""
    kind = dice.below(6) if depth > 0 else 0
    if kind == 0:
        return sign(dice.pick("ab12+-()[].,|"))
    if kind == 1:
        return any_row(dice, depth - 1)
    if kind == 2:
        return ("over", any_row(dice, depth - 1), any_row(dice, depth - 1))
    if kind == 3:
        return ("root", any_row(dice, depth - 1))
    if kind == 4:
        sides = ["(", ")", "[", "]", ""]
        return ("fence", dice.pick(sides), dice.pick(sides), any_row(dice, depth - 1))
    columns = 1 + dice.below(3)
    return ("grid", tuple(tuple(any_row(dice, depth - 1) for _ in range(columns)) for _ in range(1 + dice.below(3))))


def any_row(dice, depth):
    """Some row."""
    items = []
    for _ in range(dice.below(4)):
        item = any_tree(dice, depth)
        parts = dice.below(6)
        if parts < 3:
            up = any_tree(dice, depth) if parts != 1 else None
            down = any_tree(dice, depth) if parts != 2 else None
            item = script(item, up, down)
        items.append(item)
    return ("row", tuple(items))


class WriteTest(Case):

    def test_example(self):
        self.assertEqual(write_formula(read("x_1^2+\\root{y}")), "x^2_1+\\root{y}")

    def test_written(self):
        for text, expected in WRITTEN:
            with self.subTest(text):
                self.assertEqual(self.answer(write_formula, read(text)), expected)

    def test_row_by_hand(self):
        self.assertEqual(write_formula(row()), "")
        self.assertEqual(write_formula(row(row(), script("a", None, row("b")))), "{}a_{b}")

    def test_reading_what_was_written(self):
        for text, tree in FORMS:
            with self.subTest(text):
                self.assertEqual(read(write_formula(tree)), tree)

    def test_reading_any_tree(self):
        dice = Dice(3)
        for _ in range(200):
            tree = any_row(dice, 4)
            text = write_formula(tree)
            with self.subTest(text):
                self.assertEqual(read(text), tree)
                self.assertEqual(write_formula(read(text)), text)


if __name__ == "__main__":
    unittest.main()
