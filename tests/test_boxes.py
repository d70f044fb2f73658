"""Boxes: [21]."""

import unittest

from galleywork.boxes import bar_box, beside, grow_box, hull, is_leaf, leaves, rect, sign_box, stacked
from galleywork.fonts import Font
from helper import Case, Dice, told_font

KINDS = ("word", "parted", "row", "over", "script", "root", "fence", "grid", "mark", "line", "unit", "cell", "caption",
         "float", "noteline", "page")


class LeafTest(Case):

    def test_sign(self):
        font = Font(told_font("roman", {"fi": (7, 5, 3), "x": (4, 0, 0)}))
        self.assertEqual(self.answer(sign_box, font, "fi", "fi"), ("sign", 7, 5, 3, ("roman", "fi", "fi")))
        self.assertEqual(self.answer(sign_box, font, "x", "ab"), ("sign", 4, 0, 0, ("roman", "x", "ab")))

    def test_bar(self):
        self.assertEqual(self.answer(bar_box, 3, 2, 1), ("bar", 3, 2, 1, ()))
        self.assertEqual(self.answer(bar_box, 0, 0, 0), ("bar", 0, 0, 0, ()))

    def test_grow(self):
        for name in ("(", ")", "[", "]", "root"):
            self.assertEqual(self.answer(grow_box, name, 3, 2, 1), ("grow", 3, 2, 1, (name,)))

    def test_is_leaf(self):
        font = Font(told_font("f", {}))
        for box in (sign_box(font, "-", "-"), bar_box(1, 1, 1), bar_box(0, 0, 0), grow_box("(", 1, 2, 3),
                    grow_box("root", 0, 0, 0)):
            self.assertIs(is_leaf(box), True)
        for kind in KINDS:
            with self.subTest(kind):
                self.assertIs(is_leaf(hull(kind, [])), False)
                self.assertIs(is_leaf(hull(kind, [(0, 0, bar_box(1, 1, 1))])), False)
                self.assertIs(is_leaf((kind, 1, 1, 1, ((0, 0, hull("row", [])),))), False)


class HullTest(Case):

    def test_example(self):
        self.assertEqual(self.answer(hull, "row", [(0, 0, bar_box(3, 2, 1)), (4, 2, bar_box(2, 2, 1))]),
                         ("row", 6, 4, 1, ((0, 0, ("bar", 3, 2, 1, ())), (4, 2, ("bar", 2, 2, 1, ())))))

    def test_no_parts(self):
        for parts in ([], ()):
            self.assertEqual(self.answer(hull, "over", parts), ("over", 0, 0, 0, ()))

    def test_numbers(self):
        for parts, numbers in (
            ([(0, 0, bar_box(3, 4, 5))], (3, 4, 5)),
            ([(2, 10, bar_box(3, 4, 5))], (5, 14, 0)),
            ([(2, 5, bar_box(3, 4, 5))], (5, 9, 0)),
            ([(2, 3, bar_box(3, 4, 5))], (5, 7, 2)),
            ([(0, -10, bar_box(3, 4, 5))], (3, 0, 15)),
            ([(0, -4, bar_box(3, 4, 5))], (3, 0, 9)),
            ([(0, -3, bar_box(3, 4, 5))], (3, 1, 8)),
            ([(-2, 0, bar_box(3, 4, 5))], (1, 4, 5)),
            ([(-3, 0, bar_box(3, 4, 5))], (0, 4, 5)),
            ([(-30, 0, bar_box(3, 4, 5))], (0, 4, 5)),
            ([(9, 0, bar_box(1, 1, 1)), (0, 7, bar_box(8, 3, 0)), (5, -6, bar_box(2, 0, 2))], (10, 10, 8)),
            ([(0, 0, bar_box(0, 0, 0))], (0, 0, 0)),
            ([(10 ** 30, 10 ** 31, bar_box(1, 2, 3)), (0, -10 ** 32, bar_box(0, 0, 0))],
             (10 ** 30 + 1, 10 ** 31 + 2, 10 ** 32)),
        ):
            with self.subTest(parts):
                self.assertEqual(self.answer(hull, "root", parts), ("root", *numbers, tuple(parts)))
                self.assertEqual(self.answer(hull, "root", tuple(parts)), ("root", *numbers, tuple(parts)))

    def test_the_parts_may_change_later(self):
        parts = [(0, 0, bar_box(3, 4, 5))]
        box = hull("row", parts)
        parts.append((5, 5, bar_box(1, 1, 1)))
        self.assertEqual(box, ("row", 3, 4, 5, ((0, 0, ("bar", 3, 4, 5, ())),)))

    def test_each_part_lies_inside(self):
        dice = Dice(3)
        for _ in range(200):
            parts = [(dice.below(9), dice.below(21) - 10, bar_box(dice.below(5), dice.below(5), dice.below(5)))
                     for _ in range(dice.below(5))]
            _, w, h, d, _ = hull("row", parts)
            self.assertEqual(w, max([0] + [dx + box[1] for dx, _, box in parts]))
            self.assertEqual(h, max([0] + [dy + box[2] for _, dy, box in parts]))
            self.assertEqual(-d, min([0] + [dy - box[3] for _, dy, box in parts]))


class BesideTest(Case):

    def test_without_a_gap(self):
        one, two, three = bar_box(3, 2, 1), bar_box(0, 9, 0), bar_box(5, 0, 7)
        self.assertEqual(beside("row", one, two, three),
                         ("row", 8, 9, 7, ((0, 0, one), (3, 0, two), (3, 0, three))))
        self.assertEqual(beside("mark", one), ("mark", 3, 2, 1, ((0, 0, one),)))
        self.assertEqual(beside("mark", one, gap=0), ("mark", 3, 2, 1, ((0, 0, one),)))

    def test_with_a_gap(self):
        one, two, three = bar_box(3, 2, 1), bar_box(0, 9, 0), bar_box(5, 0, 7)
        self.assertEqual(beside("line", one, two, three, gap=4),
                         ("line", 16, 9, 7, ((0, 0, one), (7, 0, two), (11, 0, three))))
        self.assertEqual(beside("line", one, gap=4), ("line", 3, 2, 1, ((0, 0, one),)))
        self.assertEqual(beside("line", one, two, gap=4), ("line", 7, 9, 1, ((0, 0, one), (7, 0, two))))

    def test_no_boxes(self):
        self.assertEqual(beside("row"), ("row", 0, 0, 0, ()))
        self.assertEqual(beside("row", gap=7), ("row", 0, 0, 0, ()))


class StackedTest(Case):

    def test_example(self):
        self.assertEqual(stacked("unit", 9, bar_box(3, 2, 1), bar_box(4, 1, 0)),
                         ("unit", 9, 0, 4, ((0, -2, ("bar", 3, 2, 1, ())), (0, -4, ("bar", 4, 1, 0, ())))))

    def test_none_and_one(self):
        self.assertEqual(self.answer(stacked, "cell", 9), ("cell", 9, 0, 0, ()))
        box = bar_box(30, 4, 2)
        self.assertEqual(self.answer(stacked, "cell", 9, box), ("cell", 9, 0, 6, ((0, -4, box),)))

    def test_depths(self):
        one, two, three = bar_box(1, 2, 3), bar_box(1, 0, 4), bar_box(1, 5, 0)
        self.assertEqual(self.answer(stacked, "float", 7, one, two, three),
                         ("float", 7, 0, 14, ((0, -2, one), (0, -5, two), (0, -14, three))))


class ShownTest(Case):

    def test_a_leaf_shows_itself(self):
        for leaf in (bar_box(3, 2, 1), grow_box("[", 1, 2, 3), ("sign", 1, 2, 3, ("f", "a", "a"))):
            self.assertEqual(list(leaves(leaf, 5, -7)), [(5, -7, leaf)])

    def test_nothing(self):
        self.assertEqual(list(leaves(hull("page", []), 1, 2)), [])
        self.assertEqual(list(leaves(hull("page", [(1, 1, hull("line", []))]), 1, 2)), [])

    def test_the_order_through_boxes(self):
        a, b, c, d = bar_box(1, 1, 1), bar_box(2, 2, 2), grow_box("(", 3, 3, 3), bar_box(4, 4, 4)
        inner = hull("word", [(5, -1, b), (0, 0, c)])
        box = hull("line", [(100, 10, a), (-20, 4, hull("row", [(1, 1, inner), (2, 2, a)])), (0, 0, d)])
        self.assertEqual(list(leaves(box, 1000, 5000)), [
            (1100, 5010, a), (986, 5004, b), (981, 5005, c), (982, 5006, a), (1000, 5000, d)])

    def test_deep(self):
        for depth in (1, 41, 62, 300):
            box = bar_box(1, 1, 1)
            for k in range(depth):
                box = hull("row", [(1, 2, box), (3 * k, 0, bar_box(k, 0, 0))])
            found = list(leaves(box, 10, 20))
            self.assertEqual(len(found), depth + 1)
            self.assertEqual(found[0], (10 + depth, 20 + 2 * depth, bar_box(1, 1, 1)))
            for k in range(depth):
                outside = depth - 1 - k
                self.assertEqual(found[k + 1], (10 + outside + 3 * k, 20 + 2 * outside, bar_box(k, 0, 0)))

    def test_by_the_definition(self):
        dice = Dice(8)

        def grown(depth):
            if depth == 0 or dice.below(4) == 0:
                return bar_box(dice.below(4), dice.below(4), dice.below(4))
            return hull("row", [(dice.below(9), dice.below(9), grown(depth - 1)) for _ in range(dice.below(4))])

        def shown(box, x, y):
            if box[0] == "bar":
                return [(x, y, box)]
            return [leaf for dx, dy, part in box[4] for leaf in shown(part, x + dx, y + dy)]

        for _ in range(60):
            box = grown(6)
            self.assertEqual(list(leaves(box, 3, -3)), shown(box, 3, -3))

    def test_it_is_a_generator(self):
        found = leaves(bar_box(1, 2, 3), 0, 0)
        self.assertIs(iter(found), found)
        self.assertEqual(next(found), (0, 0, bar_box(1, 2, 3)))
        self.assertEqual(list(found), [])

    def test_rect(self):
        self.assertEqual(self.answer(rect, bar_box(3, 4, 5), 10, 20), (10, 15, 13, 24))
        self.assertEqual(self.answer(rect, hull("page", []), -1, -2), (-1, -2, -1, -2))
        self.assertEqual(self.answer(rect, stacked("unit", 9, bar_box(1, 2, 3)), 0, 0), (0, -5, 9, 0))


if __name__ == "__main__":
    unittest.main()
