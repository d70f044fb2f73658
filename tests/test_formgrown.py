"""Fences and grids: [24], with the brackets of [17]."""

import unittest

from galleywork.boxes import bar_box
from galleywork.formgrown import fence_box, grid_box
from helper import Case, Dice, math_of


class FenceTest(Case):

    def setUp(self):
        self.m = math_of(axis=3, rootwide=9, brackets=(("(", 8, 2), ("(", 12, 4), ("(", 21, 5), (")", 10, 3)))

    def test_both_brackets(self):
        a = bar_box(6, 8, 1)
        self.assertEqual(self.answer(fence_box, self.m, "(", a, ")"), ("fence", 13, 9, 3, (
            (0, 3, ("grow", 4, 6, 6, ("(",))), (4, 0, a), (10, 3, ("grow", 3, 5, 5, (")",))))))

    def test_needs(self):
        # Twice the greater of height - 3 and depth + 3, and at least 1.
        for height, depth, total, width in (
            (7, 0, 8, 2), (7, 1, 8, 2), (0, 1, 8, 2), (8, 0, 12, 4), (0, 2, 12, 4), (9, 3, 12, 4), (10, 0, 21, 5),
            (13, 0, 21, 5), (0, 7, 21, 5), (14, 0, 22, 5), (0, 8, 22, 5), (1003, 5, 2000, 5), (5, 997, 2000, 5),
        ):
            with self.subTest((height, depth)):
                a = bar_box(6, height, depth)
                box = self.answer(fence_box, self.m, "(", a, "")
                self.assertEqual(box[4], ((0, 3, ("grow", width, (total + 1) // 2, total // 2, ("(",))), (width, 0, a)))

    def test_an_odd_total(self):
        a = bar_box(6, 13, 0)
        self.assertEqual(fence_box(self.m, "(", a, "")[4][0], (0, 3, ("grow", 5, 11, 10, ("(",))))

    def test_the_least_need(self):
        m = math_of(axis=0, rootwide=9, brackets=())
        a = bar_box(6, 0, 0)
        self.assertEqual(self.answer(fence_box, m, "[", a, "]"), ("fence", 24, 1, 0, (
            (0, 0, ("grow", 9, 1, 0, ("[",))), (9, 0, a), (15, 0, ("grow", 9, 1, 0, ("]",))))))
        a = bar_box(6, 1, 0)
        self.assertEqual(fence_box(m, "[", a, "]")[4][0], (0, 0, ("grow", 9, 1, 1, ("[",))))
        m = math_of(axis=3, brackets=(("(", 1, 2), ("(", 2, 3)))
        # The need is that of the depth, 2 * (0 + 3), also where the box is lower than the axis.
        self.assertEqual(fence_box(m, "(", bar_box(6, 1, 0), "")[4][0], (0, 3, ("grow", 3, 3, 3, ("(",))))

    def test_none_told_of_a_char(self):
        a = bar_box(6, 8, 1)
        self.assertEqual(fence_box(self.m, "]", a, "["), ("fence", 24, 8, 2, (
            (0, 3, ("grow", 9, 5, 5, ("]",))), (9, 0, a), (15, 3, ("grow", 9, 5, 5, ("[",))))))

    def test_missing_sides(self):
        a = bar_box(6, 8, 1)
        self.assertEqual(self.answer(fence_box, self.m, "", a, ""), ("fence", 6, 8, 1, ((0, 0, a),)))
        self.assertEqual(self.answer(fence_box, self.m, "", a, ")"), ("fence", 9, 8, 2, (
            (0, 0, a), (6, 3, ("grow", 3, 5, 5, (")",))))))
        self.assertEqual(self.answer(fence_box, self.m, "(", a, ""), ("fence", 10, 9, 3, (
            (0, 3, ("grow", 4, 6, 6, ("(",))), (4, 0, a))))

    def test_the_same_bracket_on_both_sides(self):
        a = bar_box(6, 8, 1)
        left, right = ("grow", 3, 5, 5, (")",)), ("grow", 4, 6, 6, ("(",))
        self.assertEqual(fence_box(self.m, ")", a, "(")[4], ((0, 3, left), (3, 0, a), (9, 3, right)))


class GridTest(Case):

    def test_one_cell(self):
        m = math_of(axis=3, space=2)
        for h, d, y in ((4, 2, 2), (4, 3, 3), (0, 0, 3), (5, 0, 1), (0, 5, 6)):
            cell = bar_box(7, h, d)
            top = 3 + (h + d + 1) // 2
            self.assertEqual(self.answer(grid_box, m, [[cell]]),
                             ("grid", 7, max(0, top), max(0, h + d - top), ((0, y, cell),)))

    def test_rows_and_columns(self):
        m = math_of(axis=3, space=2)
        a, b, c = bar_box(5, 4, 1), bar_box(2, 6, 0), bar_box(3, 1, 1)
        d, e, f = bar_box(8, 2, 2), bar_box(3, 2, 5), bar_box(0, 0, 0)
        # The rows are 6 + 1 and 2 + 5, with 2 between them: 16 in all, from 11 down to -5.
        expected = ("grid", 18, 11, 5, (
            (1, 5, a), (10, 5, b), (15, 5, c), (0, 0, d), (10, 0, e), (16, 0, f)))
        self.assertEqual(self.answer(grid_box, m, [[a, b, c], [d, e, f]]), expected)
        self.assertEqual(self.answer(grid_box, m, ((a, b, c), (d, e, f))), expected)
        self.assertEqual(self.answer(grid_box, m, [(a, b, c), [d, e, f]]), expected)

    def test_an_odd_total(self):
        m = math_of(axis=3, space=3)
        a, b = bar_box(4, 2, 0), bar_box(7, 1, 1)
        # 2 and 2 with 3 between them: 7 in all, from 7 down to 0.
        self.assertEqual(grid_box(m, [[a], [b]]), ("grid", 7, 7, 0, ((1, 5, a), (0, 1, b))))

    def test_by_the_definition(self):
        dice = Dice(6)
        for _ in range(60):
            m = math_of(axis=dice.below(5), space=dice.below(4))
            rows = dice.below(4) + 1
            columns = dice.below(4) + 1
            grid = [[bar_box(dice.below(9), dice.below(9), dice.below(9)) for _ in range(columns)] for _ in range(rows)]
            parts = self.answer(grid_box, m, grid)[4]
            total = (sum(max(box[2] for box in row) + max(box[3] for box in row) for row in grid)
                     + m.space * (rows - 1))
            y = m.axis + (total + 1) // 2
            for k, row in enumerate(grid):
                y -= max(box[2] for box in row)
                x = 0
                for n, box in enumerate(row):
                    width = max(other[n][1] for other in grid)
                    self.assertEqual(parts[k * columns + n], (x + (width - box[1]) // 2, y, box))
                    x += width + m.space
                y -= max(box[3] for box in row) + m.space


if __name__ == "__main__":
    unittest.main()
