"""Soundness: [47]."""

import unittest

from galleywork.boxes import bar_box, grow_box, hull, rect
from galleywork.formboxes import formula_box, note_mark
from galleywork.formread import read_formula
from galleywork.shaping import word_box
from galleywork.sound import sound
from galleywork.tokens import tokenize
from helper import Case, Dice, rich_sheet
from texts import DISPLAYS, FORMULAS, accepted_texts


def plain_sound(box):
    """Whether a box is sound, by the words of the document."""
    if box[0] in ("sign", "bar", "grow", "word", "parted"):
        return True
    x1, y1, x2, y2 = rect(box, 0, 0)
    edges = [rect(part, dx, dy) for dx, dy, part in box[4]]
    if not all(x1 <= a and y1 <= b and c <= x2 and d <= y2 for a, b, c, d in edges):
        return False
    for k, (a, b, c, d) in enumerate(edges):
        for e, f, g, h in edges[:k]:
            if max(a, e) < min(c, g) and max(b, f) < min(d, h) and a < c and b < d and e < g and f < h:
                return False
    return all(plain_sound(part) for _, _, part in box[4])


class SoundTest(Case):

    def sound(self, box):
        found = self.answer(sound, box)
        self.assertIs(type(found), bool)
        self.assertEqual(found, plain_sound(box))
        return found

    def test_leaves(self):
        for leaf in (bar_box(0, 0, 0), bar_box(3, 2, 1), grow_box("(", 3, 2, 1), ("sign", 3, 4, 0, ("f", "a", "a"))):
            self.assertTrue(self.sound(leaf))

    def test_words(self):
        sign = ("sign", 3, 4, 0, ("f", "a", "a"))
        for kind in ("word", "parted"):
            self.assertTrue(self.sound((kind, 4, 4, 0, ((0, 0, sign), (1, 0, sign)))))
            self.assertTrue(self.sound((kind, 1, 1, 0, ((0, 0, sign), (5, 0, sign)))))
            # As a part it has to lie within, all the same.
            self.assertTrue(self.sound(("line", 4, 4, 0, ((0, 0, (kind, 4, 4, 0, ((0, 0, sign), (1, 0, sign)))),))))
            self.assertFalse(self.sound(("line", 3, 4, 0, ((0, 0, (kind, 4, 4, 0, ((0, 0, sign), (1, 0, sign)))),))))
        self.assertFalse(self.sound(("row", 4, 4, 0, ((0, 0, sign), (1, 0, sign)))))

    def test_boxes_without_parts(self):
        for kind in ("row", "line", "page", "cell", "unit"):
            self.assertTrue(self.sound((kind, 0, 0, 0, ())))
            self.assertTrue(self.sound((kind, 5, 4, 3, ())))

    def test_the_four_edges(self):
        # The part is 3 wide, 2 high and 1 deep, and just fits at (1, 1).
        part = bar_box(3, 2, 1)
        box = ("row", 5, 4, 1, ((1, 1, part),))
        self.assertTrue(self.sound(box))
        for dx, dy, found in ((0, 1, True), (2, 1, True), (-1, 1, False), (3, 1, False), (1, 0, True), (1, 2, True), (1, -1, False), (1, 3, False)):
            self.assertEqual(self.sound(("row", 5, 4, 1, ((dx, dy, part),))), found)
        for w, h, d, found in ((3, 2, 1, True), (2, 2, 1, False), (3, 1, 1, False), (3, 2, 0, False), (9, 9, 9, True)):
            self.assertEqual(self.sound(("row", w, h, d, ((0, 0, part),))), found)

    def test_parts_that_meet_at_an_edge(self):
        part = bar_box(3, 2, 1)
        for dx, dy, found in ((3, 0, True), (2, 0, False), (0, 3, True), (0, 2, False), (3, 3, True), (2, 2, False), (2, 3, True), (3, 2, True), (0, 0, False)):
            for parts in (((0, 0, part), (dx, dy, part)), ((dx, dy, part), (0, 0, part))):
                self.assertEqual(self.sound(("row", 10, 10, 1, parts)), found)

    def test_rectangles_without_inside(self):
        part = bar_box(4, 4, 0)
        for flat in (bar_box(0, 4, 0), bar_box(4, 0, 0), bar_box(0, 0, 0), ("row", 0, 3, 0, ()), ("row", 3, 0, 0, ())):
            for dx, dy in ((0, 0), (2, 0), (2, 2), (0, 2)):
                self.assertTrue(self.sound(("row", 9, 9, 0, ((0, 0, part), (dx, dy, flat), (dx, dy, flat)))))
                self.assertTrue(self.sound(("row", 9, 9, 0, ((dx, dy, flat), (0, 0, part)))))
        # They have to lie within, too.
        self.assertTrue(self.sound(("row", 4, 4, 0, ((4, 4, bar_box(0, 0, 0)),))))
        for dx, dy in ((5, 0), (-1, 0), (0, 5), (0, -1)):
            self.assertFalse(self.sound(("row", 4, 4, 0, ((dx, dy, bar_box(0, 0, 0)),))))

    def test_one_inside_another(self):
        self.assertFalse(self.sound(("row", 9, 9, 0, ((0, 0, bar_box(9, 9, 0)), (3, 3, bar_box(1, 1, 0))))))
        self.assertFalse(self.sound(("row", 9, 9, 0, ((3, 3, bar_box(1, 1, 0)), (0, 0, bar_box(9, 9, 0))))))
        self.assertFalse(self.sound(("row", 9, 9, 0, ((3, 0, bar_box(1, 9, 0)), (0, 3, bar_box(9, 1, 0))))))

    def test_deep_inside(self):
        good = ("row", 9, 9, 0, ((0, 0, bar_box(3, 3, 0)), (3, 0, bar_box(3, 3, 0))))
        bad = ("row", 9, 9, 0, ((0, 0, bar_box(3, 3, 0)), (2, 0, bar_box(3, 3, 0))))
        out = ("row", 9, 9, 0, ((7, 0, bar_box(3, 3, 0)),))
        for box, found in ((good, True), (bad, False), (out, False)):
            for _ in range(58):
                box = ("row", 9, 9, 0, ((0, 0, box),))
            self.assertEqual(self.sound(box), found)
            for kind in ("line", "unit", "page"):
                self.assertEqual(self.sound((kind, 30, 30, 30, ((0, 0, good), (9, 0, good), (0, 9, box)))), found)

    def test_an_overlap_within_a_word_does_not_count(self):
        bad = ("row", 9, 9, 0, ((0, 0, bar_box(3, 3, 0)), (2, 0, bar_box(3, 3, 0))))
        self.assertTrue(self.sound(("row", 9, 9, 0, ((0, 0, ("word", 9, 9, 0, bad[4])),))))

    def test_many_parts(self):
        dice = Dice(47)
        for count in (2, 5, 12):
            for _ in range(300):
                parts = tuple((dice.below(12), dice.below(12), bar_box(dice.below(5), dice.below(4), dice.below(2))) for _ in range(count))
                self.sound(("row", 15, 14, 1, parts))
                # A grid with one of its parts moved.
                grid = [[4 * (k % 4), 4 * (k // 4), bar_box(4, 4, 0)] for k in range(count)]
                grid[dice.below(count)][dice.below(2)] += dice.below(3) - 1
                self.sound(("row", 16, 16, 0, tuple(map(tuple, grid))))

    def test_a_long_row_and_a_long_column(self):
        row = [(3 * k, 0, bar_box(3, 2, 1)) for k in range(6000)]
        self.assertTrue(sound(hull("row", row)))
        self.assertFalse(sound(hull("row", row + [(9000, 0, bar_box(1, 1, 0))])))
        column = [(0, -3 * k, bar_box(3, 0, 3)) for k in range(6000)]
        self.assertTrue(sound(hull("page", column)))
        self.assertFalse(sound(hull("page", column + [(0, -9000, bar_box(1, 0, 1))])))

    def test_formulas(self):
        book = rich_sheet().book
        for text in FORMULAS + DISPLAYS:
            tokens = tokenize(text)
            for size in range(3):
                box = formula_box(book, read_formula(tokens, 0, len(tokens)), size)
                self.assertTrue(self.sound(box))
        for n in (1, 10, 750):
            self.assertTrue(self.sound(note_mark(book, n)))
        self.assertTrue(self.sound(word_box(book.font_of("f"), "office")))

    def test_placed_pages(self):
        sheet = rich_sheet()
        for _, setting in accepted_texts(sheet, 48, 8, 12):
            for page in setting.page_boxes:
                self.assertTrue(self.sound(page))
                for k, (dx, dy, part) in enumerate(page[4]):
                    for moved in ((dx - 1, dy, part), (dx + 1, dy, part)):
                        self.assertFalse(self.sound(page[:4] + (page[4][:k] + (moved,) + page[4][k + 1:],)))


if __name__ == "__main__":
    unittest.main()
