"""Measures of formulas: [17]."""

import unittest

from galleywork.errors import BadMaths
from galleywork.maths import MathSize
from helper import SIZE, Case, told

BOUNDS = (("axis", 0, 1000), ("bar", 1, 100), ("space", 0, 1000), ("up", 0, 1000), ("down", 0, 1000), ("wide", 0, 1000),
          ("thin", 0, 1000), ("rootwide", 1, 1000))


class CheckTest(Case):

    def test_fields(self):
        row = ("plain", 1, 2, 3, 4, 5, 6, 7, 8, (("(", 9, 10),))
        math = MathSize(1, row)
        self.assertEqual(
            (math.size, math.font, math.axis, math.bar, math.space, math.up, math.down, math.wide, math.thin,
             math.rootwide, math.brackets), (1, *row))

    def test_bounds(self):
        for what, low, high in BOUNDS:
            for number in (low, high):
                with self.subTest((what, number)):
                    self.assertEqual(getattr(MathSize(0, told(SIZE, **{what: number})), what), number)
            for size, number in ((0, low - 1), (1, high + 1), (2, -5)):
                with self.subTest((what, number)):
                    self.refused(BadMaths(size, what), MathSize, size, told(SIZE, **{what: number}))

    def test_the_order_of_the_fields(self):
        fields = [*BOUNDS, ("brackets", (("<", 1, 1),), None)]
        for k, (what, _, _) in enumerate(fields):
            for later, _, _ in fields[k + 1:]:
                changes = {name: (("<", 1, 1),) if name == "brackets" else -1 for name in (what, later)}
                self.refused(BadMaths(2, what), MathSize, 2, told(SIZE, **changes))

    def test_the_font_is_not_checked(self):
        for font in ("", "F", "no font at all"):
            self.assertEqual(MathSize(0, told(SIZE, font=font)).font, font)

    def test_brackets(self):
        for brackets in (
            (), (("(", 1, 1),), (("]", 1000, 1000),), (("(", 1, 5), ("(", 2, 1)),
            (("(", 9, 9), (")", 1, 1), ("[", 1, 1), ("]", 1, 1)), (("(", 1, 1), (")", 1, 1)),
        ):
            with self.subTest(brackets):
                self.assertEqual(MathSize(0, told(SIZE, brackets=brackets)).brackets, brackets)
        for brackets in (
            (("(", 0, 1),), (("(", 1, 0),), (("(", 1001, 1),), (("(", 1, 1001),), (("(", -1, 1),), (("(", 1, -1),),
            (("<", 1, 1),), (("", 1, 1),), (("()", 1, 1),), ((".", 1, 1),), (("root", 1, 1),), (("{", 1, 1),),
            (("(", 1, 1), ("(", 1, 2)), (("(", 2, 1), ("(", 1, 2)), ((")", 1, 1), ("(", 1, 1)), (("[", 1, 1), (")", 2, 2)),
            (("(", 1, 1), ("(", 1, 1)),
        ):
            with self.subTest(brackets):
                self.refused(BadMaths(1, "brackets"), MathSize, 1, told(SIZE, brackets=brackets))


class BracketTest(Case):

    def setUp(self):
        brackets = (("(", 4, 2), ("(", 9, 1), ("(", 20, 5), (")", 6, 3))
        self.math = MathSize(0, told(SIZE, rootwide=7, brackets=brackets))

    def test_bracket(self):
        for char, need, expected in (
            ("(", 1, (4, 2)), ("(", 3, (4, 2)), ("(", 4, (4, 2)), ("(", 5, (9, 1)), ("(", 9, (9, 1)), ("(", 10, (20, 5)),
            ("(", 20, (20, 5)), ("(", 21, (21, 5)), ("(", 5000, (5000, 5)),
            (")", 1, (6, 3)), (")", 6, (6, 3)), (")", 7, (7, 3)), (")", 10 ** 12, (10 ** 12, 3)),
            ("[", 1, (1, 7)), ("[", 30, (30, 7)), ("]", 6, (6, 7)),
        ):
            with self.subTest((char, need)):
                self.assertEqual(self.answer(self.math.bracket, char, need), expected)

    def test_no_brackets(self):
        math = MathSize(0, told(SIZE, rootwide=1))
        for char in "()[]":
            self.assertEqual(math.bracket(char, 3), (3, 1))


if __name__ == "__main__":
    unittest.main()
