"""Listings: [59]."""

import unittest

from galleywork.boxes import bar_box, grow_box, stacked
from galleywork.listing import line_rows, show_page, show_pages
from galleywork.setting import fresh
from helper import Case, demo_sheet, rich_sheet
from texts import accepted_texts, box_letters


def sign(letters, w=3):
    return ("sign", w, 4, 0, ("f", letters[:1], letters))


def word(letters, kind="word"):
    return (kind, 3 * len(letters), 4, 0, tuple((3 * k, 0, sign(char)) for k, char in enumerate(letters)))


def line(*parts):
    return ("line", 50, 5, 2, parts)


def page(*parts):
    return ("page", 90, 0, 99, parts)


class RowTest(Case):

    def rows(self, one):
        found = self.answer(line_rows, one)
        self.assertIs(type(found), list)
        return found

    def letters(self, *parts):
        return self.rows(page((0, 0, line(*parts))))[0][2]

    def test_example(self):
        one = ("word", 6, 4, 0, ((0, 0, ("sign", 3, 4, 0, ("f", "a", "a"))), (2, 0, ("sign", 4, 4, 0, ("f", "b", "b")))))
        whole = ("page", 20, 0, 30, ((1, -5, ("line", 18, 5, 2, ((2, 0, one), (10, 0, one)))),))
        self.assertEqual(self.rows(whole), [(3, 5, "ab ab")])
        self.assertEqual(self.answer(show_page, 12, whole), "page   12\n     5     3  ab ab")

    def test_places(self):
        self.assertEqual(self.rows(page()), [])
        self.assertEqual(self.rows(page((0, 0, bar_box(1, 1, 1)))), [])
        self.assertEqual(self.rows(page((0, -9, line((0, 0, word("ab")))))), [(0, 9, "ab")])
        self.assertEqual(self.rows(page((3, -9, line((4, 0, word("ab")))))), [(7, 9, "ab")])
        # The first part tells x, the baseline of the line tells y.
        self.assertEqual(self.rows(page((3, -9, line((4, 5, word("ab")), (1, 0, word("c")))))), [(7, 9, "abc")])
        self.assertEqual(self.rows(page((-30, 9, line((4, 0, word("ab")))))), [(-26, -9, "ab")])

    def test_lines_without_parts(self):
        self.assertEqual(self.rows(page((3, -9, line()))), [(3, 9, "")])
        self.assertEqual(show_page(1, page((3, -9, line()))), "page    1\n     9     3  ")

    def test_lines_inside_other_boxes(self):
        one, two, three = line((0, 0, word("a"))), line((1, 0, word("b"))), line((2, 0, word("c")))
        unit = ("unit", 90, 5, 2, ((2, 0, one),))
        row = ("unit", 90, 0, 14, ((0, 0, stacked("cell", 40, two, three)), (45, 0, stacked("cell", 40, one)), (87, 0, ("cell", 3, 0, 0, ()))))
        one_float = stacked("float", 90, bar_box(90, 5, 0), ("caption", 90, 5, 2, ((4, 0, three),)))
        note = ("noteline", 90, 5, 2, ((3, 0, two),))
        whole = page((0, 0, one_float), (0, -20, unit), (0, -22, row), (0, -50, bar_box(90, 0, 1)), (0, -56, note))
        self.assertEqual(self.rows(whole), [(6, 10, "c"), (2, 20, "a"), (1, 27, "b"), (2, 34, "c"), (45, 27, "a"), (4, 56, "b")])

    def test_spaces_only_where_there_is_room(self):
        for dx, letters in ((6, "abc"), (7, "ab c"), (8, "ab c"), (100, "ab c"), (5, "abc"), (0, "abc"), (-9, "abc")):
            self.assertEqual(self.letters((0, 0, word("ab")), (dx, 0, word("c"))), letters)
        self.assertEqual(self.letters((0, 0, word("a")), (3, 0, word("b")), (7, 0, word("c")), (20, 0, word("d"))), "ab c d")
        # The room is that behind the part ahead, whatever it shows.
        self.assertEqual(self.letters((0, 0, word("a")), (9, 0, bar_box(1, 1, 0)), (11, 0, word("b"))), "a  b")
        self.assertEqual(self.letters((5, 0, word("a"))), "a")

    def test_letters(self):
        joined = ("word", 9, 4, 0, ((0, 0, ("sign", 3, 4, 0, ("f", "ffi", "ffi"))), (3, 0, sign("x"))))
        for part, letters in (
            (joined, "ffix"), (word("ab-", "parted"), "ab-"), (sign("z"), "z"), (bar_box(1, 1, 1), ""), (grow_box("(", 1, 1, 1), "("), (grow_box("root", 1, 1, 1), "root"),
            (("fence", 9, 9, 9, ((0, 0, grow_box("[", 1, 1, 1)), (1, 0, sign("a")), (4, 0, grow_box(")", 1, 1, 1)))), "[a)"),
            (("over", 9, 9, 9, ((0, 5, sign("a")), (0, 0, bar_box(1, 1, 1)), (0, -5, sign("b")))), "ab"),
            (("root", 9, 9, 9, ((0, 0, grow_box("root", 1, 1, 1)), (1, 0, ("row", 6, 4, 0, ((0, 0, sign("a")), (3, 0, sign("b"))))))), "rootab"),
            (("mark", 9, 9, 0, ((0, 3, ("row", 6, 4, 0, ((0, 0, sign("1")), (3, 0, sign("2"))))),)), "12"), (("row", 0, 0, 0, ()), ""),
        ):
            self.assertEqual(self.letters((0, 0, part)), letters)

    def test_settings(self):
        sheet = rich_sheet()
        for _, setting in accepted_texts(sheet, 59, 12, 12):
            for one in setting.page_boxes:
                rows = self.rows(one)
                self.assertEqual(sorted(y for _, y, _ in rows), sorted(y for _, y, _ in plain_rows(one, 0, 0)))
                self.assertEqual([letters.replace(" ", "") for _, _, letters in rows], [letters for _, _, letters in plain_rows(one, 0, 0)])
                self.assertEqual([x for x, _, _ in rows], [x for x, _, _ in plain_rows(one, 0, 0)])


def plain_rows(box, x, y):
    """The rows of the lines in a box, without the spaces between their parts."""
    if box[0] == "line":
        parts = [part for _, _, part in box[4]]
        letters = "".join(box_text(part) for part in parts)
        return [(x + (box[4][0][0] if parts else 0), -y, letters)]
    if box[0] in ("sign", "bar", "grow"):
        return []
    return [row for dx, dy, part in box[4] for row in plain_rows(part, x + dx, y + dy)]


def box_text(box):
    if box[0] == "grow":
        return box[4][0]
    if box[0] in ("sign", "bar"):
        return box_letters(box)
    return "".join(box_text(part) for _, _, part in box[4])


class ShowTest(Case):

    def test_the_example_of_the_document(self):
        setting = fresh(demo_sheet(), "\\head{ab} b\\mark{a}")
        text = "page    1\n     5     1  ab\n    12     3  b\npage    2\n     5     1  1. ab 1\n    12     1  a 1"
        self.assertEqual(self.answer(show_pages, list(setting.page_boxes)), text)
        self.assertEqual(show_pages(setting.page_boxes), text)

    def test_no_pages(self):
        self.assertEqual(self.answer(show_pages, []), "")
        self.assertEqual(show_pages(()), "")

    def test_pages_without_lines(self):
        self.assertEqual(self.answer(show_pages, [page(), page((0, 0, bar_box(9, 9, 0))), page()]), "page    1\npage    2\npage    3")

    def test_page_numbers(self):
        for number, head in ((0, "page    0"), (1, "page    1"), (12345, "page12345"), (123456, "page123456"), (999999999, "page999999999")):
            self.assertEqual(self.answer(show_page, number, page()), head)

    def test_columns(self):
        for x, y, row in (
            (0, 0, "     0     0  a"), (12, 345, "   345    12  a"), (123456, 654321, "654321123456  a"), (1234567, 7654321, "76543211234567  a"),
            (-1, -2, "    -2    -1  a"), (-12345, -54321, "-54321-12345  a"), (-123456, -654321, "-654321-123456  a"), (999999999, -999999999, "-999999999999999999  a"),
        ):
            self.assertEqual(show_page(3, page((x, -y, line((0, 0, word("a")))))), "page    3\n" + row)

    def test_many_pages(self):
        text = show_pages([page((0, 0, line((0, 0, word("a")))))] * 11)
        self.assertEqual(text.split("\n")[18:], ["page   10", "     0     0  a", "page   11", "     0     0  a"])


if __name__ == "__main__":
    unittest.main()
