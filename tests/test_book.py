"""The book: [18]."""

import unittest

from galleywork.book import Book
from galleywork.errors import BadFont, BadMaths, BadPattern
from galleywork.fonts import Font
from galleywork.maths import MathSize
from helper import FONT, SIZE, Case, told

F = told(FONT)
G = told(FONT, name="g", above=9)
S = told(SIZE)
THREE = (S, S, S)


class BookTest(Case):

    def test_fonts(self):
        book = Book((F, G), THREE)
        for name, expected in (("f", True), ("g", True), ("h", False), ("", False), ("F", False)):
            self.assertIs(book.has_font(name), expected)
        self.assertIsInstance(book.font_of("f"), Font)
        self.assertEqual((book.font_of("f").name, book.font_of("g").name), ("f", "g"))
        self.assertEqual((book.font_of("f").above, book.font_of("g").above), (5, 9))

    def test_maths(self):
        book = Book((F, G), (told(SIZE, axis=1), told(SIZE, font="g", axis=2), told(SIZE, axis=3)))
        for size, (real, axis) in ((0, (0, 1)), (1, (1, 2)), (2, (2, 3)), (3, (2, 3)), (4, (2, 3)), (100, (2, 3))):
            math = book.math_of(size)
            self.assertIsInstance(math, MathSize)
            self.assertEqual((math.size, math.axis), (real, axis))
        self.assertEqual(book.math_of(1).font, "g")

    def test_points(self):
        for patterns, exceptions, expected in (
            ((), (), ([], [])), (("b1a",), (), ([2, 4], [2])), ((), ("ab-ab",), ([], [2])), (("b1a",), ("a-bab",), ([2, 4], [1])),
        ):
            book = Book((F,), THREE, patterns=patterns, exceptions=exceptions)
            # With four letters no place is within the bounds of the patterns.
            short = expected[1] if exceptions else []
            self.assertEqual(self.answer(book.points, "abababa"), expected[0])
            self.assertEqual(self.answer(book.points, "ABab"), short)

    def test_without_patterns_and_exceptions(self):
        self.assertEqual(Book((F,), THREE).points("abababa"), [])
        self.assertEqual(Book((F,), THREE, patterns=("b1a",)).points("abababa"), [2, 4])
        self.assertEqual(Book((F,), THREE, exceptions=("a-bababa",)).points("abababa"), [1])

    def test_they_are_passed_by_keyword(self):
        with self.assertRaises(TypeError):
            Book((F,), THREE, ("b1a",))

    def test_errors(self):
        bad = told(FONT, name="g", gap=(0, 0, 1))
        self.refused(BadFont("g", "gap"), Book, (F, bad), THREE)
        self.refused(BadFont("f", "double"), Book, (F, G, F), THREE)
        self.refused(BadFont("g", "double"), Book, (F, G, G, F), THREE)
        self.refused(BadFont("f", "double"), Book, (F, told(FONT, above=9)), THREE)
        for size in range(3):
            sizes = [S, S, S]
            sizes[size] = told(SIZE, font="h")
            self.refused(BadMaths(size, "font"), Book, (F, G), tuple(sizes))
            sizes[size] = told(SIZE, bar=0)
            self.refused(BadMaths(size, "bar"), Book, (F, G), tuple(sizes))
        self.refused(BadPattern("1"), Book, (F,), THREE, patterns=("1",))
        self.refused(BadPattern("1"), Book, (F,), THREE, exceptions=("1",))

    def test_the_order_of_the_errors(self):
        bad_g = told(FONT, name="g", gap=(0, 0, 1))
        bad_h = told(FONT, name="h", above=-1)
        strange = told(SIZE, font="h", bar=0)
        self.refused(BadFont("g", "gap"), Book, (F, bad_g, bad_h, F), (strange, S, S), patterns=("1",))
        self.refused(BadFont("g", "gap"), Book, (F, F, bad_g), THREE)
        self.refused(BadFont("f", "double"), Book, (F, F), (strange, S, S), patterns=("1",), exceptions=("1",))
        self.refused(BadMaths(0, "font"), Book, (F,), (strange, strange, S), patterns=("1",))
        self.refused(BadMaths(0, "bar"), Book, (F,), (told(SIZE, bar=0), strange, S), patterns=("1",))
        self.refused(BadMaths(1, "font"), Book, (F,), (S, strange, told(SIZE, bar=0)), exceptions=("1",))
        self.refused(BadPattern("1"), Book, (F,), THREE, patterns=("a", "1"), exceptions=("-",))

    def test_what_was_told_stays(self):
        fonts, maths, patterns, exceptions = (F, G), THREE, ("b1a",), ("a-b",)
        Book(fonts, maths, patterns=patterns, exceptions=exceptions)
        self.assertEqual((fonts, maths, patterns, exceptions), ((F, G), (S, S, S), ("b1a",), ("a-b",)))


if __name__ == "__main__":
    unittest.main()
