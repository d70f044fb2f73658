"""The device file and the ink of pages: [48] and [50]."""

import unittest

from galleywork.boxes import bar_box, grow_box
from galleywork.devread import draw_device
from galleywork.devwrite import device_text, page_ink
from helper import Case, demo_sheet, rich_sheet
from texts import accepted_texts


def sign(font, char, w=3, letters=None):
    return ("sign", w, 4, 0, (font, char, letters or char))


def page(*parts):
    return ("page", 90, 0, 99, parts)


class DeviceCase(Case):

    def lines(self, *pages):
        found = self.answer(device_text, list(pages))
        self.assertEqual(device_text(tuple(pages)), found)
        return found.split("\n")

    def parted(self, *parts):
        """The lines of one page behind its first one."""
        found = self.lines(page(*parts))
        self.assertEqual(found[0], "page 1")
        return found[1:]

    def ink(self, *pages):
        found = self.answer(page_ink, list(pages))
        self.assertIs(type(found), list)
        self.assertEqual(page_ink(tuple(pages)), found)
        return found


class DeviceTest(DeviceCase):

    def test_example(self):
        word = ("word", 6, 4, 0, ((0, 0, ("sign", 3, 4, 0, ("f", "a", "a"))), (2, 0, ("sign", 4, 4, 0, ("f", "b", "b")))))
        one = ("page", 20, 0, 30, ((1, -5, word), (0, -9, bar_box(20, 0, 1))))
        self.assertEqual(self.answer(device_text, [one]),
                         "page 1\npush\nright 1\ndown 5\nfont f\nput a\nright -1\nput b\npop\npush\ndown 9\nbar 20 0 1\npop")
        self.assertEqual(self.answer(page_ink, [one]), [("sign", 1, 1, 5, "f", "a"), ("sign", 1, 3, 5, "f", "b"), ("bar", 1, 0, 9, 20, 0, 1)])

    def test_no_pages(self):
        for pages in ([], ()):
            self.assertEqual(self.answer(device_text, pages), "")
            self.assertEqual(self.answer(page_ink, pages), [])

    def test_pages_without_parts(self):
        self.assertEqual(self.lines(page()), ["page 1"])
        self.assertEqual(self.lines(page(), page((0, 0, ("unit", 5, 5, 5, ()))), page()), ["page 1", "page 2", "push", "pop", "page 3"])
        self.assertEqual(self.ink(page(), page()), [])

    def test_places(self):
        for dx, dy, lines in (
            (0, 0, []), (3, 0, ["right 3"]), (-3, 0, ["right -3"]), (0, -4, ["down 4"]), (0, 4, ["down -4"]), (12, -345, ["right 12", "down 345"]),
            (-999999999, 999999999, ["right -999999999", "down -999999999"]),
        ):
            self.assertEqual(self.parted((dx, dy, bar_box(1, 2, 3))), ["push"] + lines + ["bar 1 2 3", "pop"])
            self.assertEqual(self.ink(page((dx, dy, bar_box(1, 2, 3)))), [("bar", 1, dx, -dy, 1, 2, 3)])

    def test_leaves(self):
        for leaf, lines, ink in (
            (sign("f", "a"), ["font f", "put a"], ("sign", 1, 2, 5, "f", "a")),
            (sign("font", "ffi", letters="ffi"), ["font font", "put ffi"], ("sign", 1, 2, 5, "font", "ffi")),
            (bar_box(0, 0, 0), ["bar 0 0 0"], ("bar", 1, 2, 5, 0, 0, 0)), (bar_box(10, 200, 3000), ["bar 10 200 3000"], ("bar", 1, 2, 5, 10, 200, 3000)),
            (grow_box("(", 0, 0, 0), ["grow ( 0 0 0"], ("grow", 1, 2, 5, "(", 0, 0, 0)), (grow_box("root", 4, 5, 6), ["grow root 4 5 6"], ("grow", 1, 2, 5, "root", 4, 5, 6)),
        ):
            self.assertEqual(self.parted((2, -5, leaf)), ["push", "right 2", "down 5"] + lines + ["pop"])
            self.assertEqual(self.ink(page((2, -5, leaf))), [ink])

    def test_words(self):
        for kind in ("word", "parted"):
            word = (kind, 9, 4, 0, ((2, 0, sign("f", "a")), (5, 0, sign("f", "b", 4)), (7, 0, sign("f", "c")), (12, 0, sign("f", "-"))))
            self.assertEqual(self.parted((0, 0, word)), [
                "push", "right 2", "font f", "put a", "put b", "right -2", "put c", "right 2", "put -", "pop"])
            self.assertEqual(self.ink(page((0, 0, word))), [
                ("sign", 1, 2, 0, "f", "a"), ("sign", 1, 5, 0, "f", "b"), ("sign", 1, 7, 0, "f", "c"), ("sign", 1, 12, 0, "f", "-")])
            self.assertEqual(self.parted((3, 0, (kind, 0, 0, 0, ()))), ["push", "right 3", "pop"])
            self.assertEqual(self.parted((3, 0, (kind, 3, 4, 0, ((-1, 0, sign("f", "a")),)))), ["push", "right 3", "right -1", "font f", "put a", "pop"])

    def test_words_of_several_fonts(self):
        word = ("word", 9, 4, 0, ((0, 0, sign("f", "a")), (3, 0, sign("g", "a")), (6, 0, sign("g", "b")), (9, 0, sign("f", "b"))))
        self.assertEqual(self.parted((0, 0, word)), ["push", "font f", "put a", "font g", "put a", "put b", "font f", "put b", "pop"])

    def test_pop_brings_the_font_back(self):
        word = ("word", 3, 4, 0, ((0, 0, sign("f", "a")),))
        # Behind each pop no font is in force, as none was at the push.
        self.assertEqual(self.parted((0, 0, word), (3, 0, word)), ["push", "font f", "put a", "pop", "push", "right 3", "font f", "put a", "pop"])
        self.assertEqual(self.parted((0, 0, ("line", 9, 4, 0, ((0, 0, word), (3, 0, word), (6, 0, sign("f", "b")))))), [
            "push", "push", "font f", "put a", "pop", "push", "right 3", "font f", "put a", "pop", "push", "right 6", "font f", "put b", "pop", "pop"])
        self.assertEqual(self.parted((0, 0, ("row", 9, 4, 0, ((0, 0, sign("f", "a")), (3, 0, sign("f", "b")))))), [
            "push", "push", "font f", "put a", "pop", "push", "right 3", "font f", "put b", "pop", "pop"])

    def test_words_beside_other_parts(self):
        word = ("word", 6, 4, 0, ((0, 0, sign("f", "a")), (3, 0, sign("f", "b"))))
        line = ("line", 20, 4, 0, ((1, 0, word), (8, 2, ("mark", 3, 4, 0, ((0, 0, ("row", 3, 4, 0, ((0, 0, sign("n", "1")),))),))), (12, 0, word)))
        self.assertEqual(self.parted((0, -9, line)), [
            "push", "down 9",
            "push", "right 1", "font f", "put a", "put b", "pop",
            "push", "right 8", "down -2", "push", "push", "font n", "put 1", "pop", "pop", "pop",
            "push", "right 12", "font f", "put a", "put b", "pop",
            "pop"])

    def test_several_pages(self):
        pages = [page((0, 0, sign("f", "a")))] * 12
        self.assertEqual([line for line in self.lines(*pages) if line.startswith("page")], ["page " + str(n) for n in range(1, 13)])
        self.assertEqual(self.ink(*pages), [("sign", n, 0, 0, "f", "a") for n in range(1, 13)])

    def test_deep_boxes(self):
        box = sign("f", "a")
        for _ in range(60):
            box = ("row", 9, 9, 9, ((1, -1, box),))
        found = self.lines(("page", 9, 0, 9, box[4]))
        self.assertEqual(len(found), 1 + 4 * 60 + 2)
        self.assertEqual(self.ink(("page", 9, 0, 9, box[4])), [("sign", 1, 60, 60, "f", "a")])

    def test_kinds_of_boxes_and_letters_are_not_written(self):
        one = page((0, 0, ("cell", 5, 5, 5, ((1, 0, sign("f", "fi", letters="fi")),))))
        two = page((0, 0, ("caption", 6, 7, 8, ((1, 0, sign("f", "fi", letters="zz")),))))
        self.assertEqual(self.lines(one), self.lines(two))
        self.assertEqual(self.ink(one), self.ink(two))


class SameInkTest(DeviceCase):

    def test_by_hand(self):
        book = demo_sheet().book
        word = ("word", 6, 4, 0, ((0, 0, sign("f", "a")), (2, 0, sign("f", "b", 4))))
        parted = ("parted", 6, 4, 0, ((5, 0, sign("f", "b", 4)), (9, 0, sign("f", "-", 2))))
        pages = [page((3, -8, word), (0, 4, bar_box(1, 0, 0)), (-7, -1, ("row", 1, 1, 1, ((2, 3, parted), (0, 0, grow_box("[", 1, 2, 3)))))), page(), page((0, 0, word))]
        self.assertEqual(draw_device(book, device_text(pages)), page_ink(pages))

    def test_settings(self):
        sheet = rich_sheet()
        seen = {}
        for text, setting in accepted_texts(sheet, 49, 25, 10):
            device, ink = device_text(setting.page_boxes), page_ink(setting.page_boxes)
            self.assertEqual(draw_device(sheet.book, device), ink)
            # Pages with different ink have different device files.
            self.assertEqual(seen.setdefault(device, ink), ink)
            self.assertFalse(device.endswith("\n"))


if __name__ == "__main__":
    unittest.main()
