"""The boxes of rows, fractions, scripts and roots: [22], [23]."""

import unittest

from galleywork.boxes import bar_box
from galleywork.formparts import over_box, root_box, row_box, script_box
from galleywork.maths import MathSize
from helper import Case, math_of


class RowTest(Case):

    def test_lists_and_tuples(self):
        m = math_of(wide=7, thin=3)
        boxes = [bar_box(4, 5, 1), bar_box(2, 3, 6), bar_box(1, 1, 0), bar_box(3, 0, 0), bar_box(5, 2, 2)]
        kinds = ["plain", "oper", "plain", "rel", "rel"]
        expected = ("row", 28, 5, 6, ((0, 0, boxes[0]), (7, 0, boxes[1]), (12, 0, boxes[2]), (20, 0, boxes[3]),
                                      (23, 0, boxes[4])))
        self.assertEqual(self.answer(row_box, m, boxes, kinds), expected)
        self.assertEqual(self.answer(row_box, m, tuple(boxes), tuple(kinds)), expected)

    def test_none_and_one(self):
        m = math_of()
        self.assertEqual(self.answer(row_box, m, [], []), ("row", 0, 0, 0, ()))
        self.assertEqual(self.answer(row_box, m, (), ()), ("row", 0, 0, 0, ()))
        for kind in ("plain", "oper", "rel", "comma"):
            box = bar_box(4, 5, 6)
            self.assertEqual(self.answer(row_box, m, [box], [kind]), ("row", 4, 5, 6, ((0, 0, box),)))

    def test_the_kinds_are_those_that_are_passed(self):
        m = math_of(wide=7, thin=3)
        a, b = bar_box(1, 1, 1), bar_box(1, 2, 3)
        self.assertEqual(row_box(m, [a, b], ["oper", "plain"]), ("row", 5, 2, 3, ((0, 0, a), (4, 0, b))))
        self.assertEqual(row_box(m, [a, b], ["plain", "oper"]), ("row", 5, 2, 3, ((0, 0, a), (4, 0, b))))
        self.assertEqual(row_box(m, [a, b], ["comma", "plain"]), ("row", 5, 2, 3, ((0, 0, a), (4, 0, b))))
        self.assertEqual(row_box(m, [a, b], ["plain", "comma"]), ("row", 2, 2, 3, ((0, 0, a), (1, 0, b))))
        self.assertEqual(row_box(m, [a, b], ["plain", "rel"]), ("row", 9, 2, 3, ((0, 0, a), (8, 0, b))))


class OverTest(Case):

    def test_the_upper_side_wider(self):
        m = math_of(axis=5, bar=2, space=3)
        a, b = bar_box(9, 4, 2), bar_box(4, 6, 1)
        self.assertEqual(self.answer(over_box, m, a, b), ("over", 15, 16, 5, (
            (3, 12, a), (0, 5, bar_box(15, 2, 0)), (5, -4, b))))

    def test_the_lower_side_wider(self):
        m = math_of(axis=5, bar=2, space=3)
        a, b = bar_box(4, 4, 2), bar_box(10, 6, 1)
        self.assertEqual(self.answer(over_box, m, a, b), ("over", 16, 16, 5, (
            (6, 12, a), (0, 5, bar_box(16, 2, 0)), (3, -4, b))))

    def test_odd_differences(self):
        m = math_of(axis=0, bar=1, space=0)
        for wide, slim, x in ((9, 4, 2), (9, 5, 2), (9, 6, 1), (9, 8, 0), (9, 9, 0), (1, 0, 0)):
            parts = over_box(m, bar_box(wide, 1, 0), bar_box(slim, 1, 0))[4]
            self.assertEqual([part[0] for part in parts], [0, 0, x])
            parts = over_box(m, bar_box(slim, 1, 0), bar_box(wide, 1, 0))[4]
            self.assertEqual([part[0] for part in parts], [x, 0, 0])

    def test_empty_sides(self):
        m = math_of(axis=2, bar=1, space=1)
        empty = ("row", 0, 0, 0, ())
        self.assertEqual(self.answer(over_box, m, empty, empty), ("over", 2, 4, 0, (
            (1, 4, empty), (0, 2, bar_box(2, 1, 0)), (1, 1, empty))))

    def test_no_space(self):
        m = math_of(axis=0, bar=1, space=0)
        a, b = bar_box(2, 3, 4), bar_box(2, 5, 6)
        self.assertEqual(over_box(m, a, b), ("over", 2, 8, 11, ((0, 5, a), (0, 0, bar_box(2, 1, 0)), (0, -5, b))))


class ScriptTest(Case):

    def test_example(self):
        m = MathSize(0, ("plain", 2, 1, 1, 3, 2, 2, 1, 3, ()))
        self.assertEqual(self.answer(script_box, m, bar_box(4, 5, 0), bar_box(2, 4, 1), bar_box(3, 4, 0)),
                         ("script", 8, 8, 2, ((0, 0, ('bar', 4, 5, 0, ())), (5, 4, ('bar', 2, 4, 1, ())),
                                              (5, -2, ('bar', 3, 4, 0, ())))))

    def test_one_part(self):
        m = math_of(space=1, up=3, down=2)
        base, part = bar_box(4, 5, 0), bar_box(2, 4, 1)
        self.assertEqual(self.answer(script_box, m, base, part, None),
                         ("script", 7, 7, 0, ((0, 0, base), (5, 3, part))))
        self.assertEqual(self.answer(script_box, m, base, None, part),
                         ("script", 7, 5, 3, ((0, 0, base), (5, -2, part))))

    def test_a_high_base(self):
        m = math_of(space=2, up=3, down=2)
        base = bar_box(4, 20, 0)
        for height, y in ((4, 18), (5, 18), (6, 17), (1, 20), (0, 20), (33, 4), (34, 3), (35, 3), (60, 3)):
            part = bar_box(1, height, 0)
            self.assertEqual(script_box(m, base, part, None)[4], ((0, 0, base), (6, y, part)))

    def test_a_deep_base(self):
        m = math_of(space=0, up=3, down=2)
        part = bar_box(2, 4, 1)
        for depth, y in ((0, -2), (1, -2), (2, -2), (3, -3), (9, -9)):
            base = bar_box(4, 5, depth)
            self.assertEqual(script_box(m, base, None, part), ("script", 6, 5, max(depth, 1 - y),
                                                               ((0, 0, base), (4, y, part))))

    def test_the_room_between_the_parts(self):
        # The upper part stands at 10 - its depth above the lower one, whose top is at 2.
        m = math_of(space=3, up=10, down=2)
        base, low = bar_box(4, 1, 0), bar_box(1, 4, 0)
        for depth, y in ((0, 10), (4, 10), (5, 10), (6, 11), (7, 12), (20, 25)):
            up = bar_box(1, 1, depth)
            self.assertEqual(script_box(m, base, up, low)[4], ((0, 0, base), (7, y, up), (7, -2, low)))
        for height, y in ((0, 10), (8, 10), (9, 10), (10, 11), (11, 12), (30, 31)):
            low, up = bar_box(1, height, 9), bar_box(1, 1, 0)
            self.assertEqual(script_box(m, base, up, low)[4], ((0, 0, base), (7, y, up), (7, -2, low)))

    def test_no_least_room(self):
        m = math_of(space=0, up=0, down=0)
        base = bar_box(4, 0, 0)
        for depth, height, y in ((0, 0, 0), (0, 1, 1), (1, 0, 1), (2, 3, 5)):
            up, low = bar_box(1, 0, depth), bar_box(1, height, 0)
            self.assertEqual(script_box(m, base, up, low)[4], ((0, 0, base), (4, y, up), (4, 0, low)))

    def test_a_single_part_is_not_raised(self):
        m = math_of(space=3, up=1, down=1)
        base, up = bar_box(4, 0, 0), bar_box(1, 0, 9)
        self.assertEqual(script_box(m, base, up, None)[4], ((0, 0, base), (7, 1, up)))


class RootTest(Case):

    def test_root(self):
        m = math_of(bar=2, space=3, rootwide=7)
        a = bar_box(9, 5, 4)
        self.assertEqual(self.answer(root_box, m, a), ("root", 16, 10, 4, (
            (0, 0, ("grow", 7, 10, 4, ("root",))), (7, 0, a), (7, 8, bar_box(9, 2, 0)))))

    def test_an_empty_root(self):
        m = math_of(bar=1, space=0, rootwide=1)
        empty = ("row", 0, 0, 0, ())
        self.assertEqual(self.answer(root_box, m, empty), ("root", 1, 1, 0, (
            (0, 0, ("grow", 1, 1, 0, ("root",))), (1, 0, empty), (1, 0, bar_box(0, 1, 0)))))


if __name__ == "__main__":
    unittest.main()
