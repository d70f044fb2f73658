"""The boxes of formulas, missing signs and note marks: [25]."""

import unittest

from galleywork.book import Book
from galleywork.boxes import bar_box, hull
from galleywork.formboxes import formula_box, missing_sign, note_mark
from galleywork.formread import read_formula
from galleywork.tokens import tokenize
from helper import SIZE, Case, told, told_font

CHARS = "xyz+=(),b"
FONTS = (
    told_font("big", {char: (10, 12, 3) for char in CHARS + "0123456789B"}),
    told_font("mid", {char: (6, 8, 2) for char in CHARS + "0123456789M"}),
    told_font("low", {char: (3, 5, 1) for char in CHARS + "0123456789L"}),
)
MATHS = (
    told(SIZE, font="big", axis=4, bar=2, space=3, up=7, down=5, wide=9, thin=4, rootwide=8, brackets=(("(", 20, 6),)),
    told(SIZE, font="mid", axis=3, bar=1, space=2, up=5, down=4, wide=6, thin=3, rootwide=5, brackets=(("(", 14, 4),)),
    told(SIZE, font="low", axis=2, bar=1, space=1, up=3, down=2, wide=4, thin=1, rootwide=3, brackets=(("(", 8, 2),)),
)
NAMES = ("big", "mid", "low")
SIZES = ((10, 12, 3), (6, 8, 2), (3, 5, 1))


def tree_of(text):
    """The row of a formula."""
    tokens = tokenize(text)
    return read_formula(tokens, 0, len(tokens))


def leaf(size, char):
    """The leaf of a character at a size."""
    return ("sign", *SIZES[size], (NAMES[size], char, char))


class FormulaTest(Case):

    def setUp(self):
        self.book = Book(FONTS, MATHS)

    def box(self, tree, size):
        return self.answer(formula_box, self.book, tree, size)

    def test_signs(self):
        for size in (0, 1, 2):
            self.assertEqual(self.box(("sign", "x"), size), leaf(size, "x"))

    def test_rows(self):
        self.assertEqual(self.box(tree_of(""), 0), ("row", 0, 0, 0, ()))
        for size, thin, wide in ((0, 4, 9), (1, 3, 6), (2, 1, 4)):
            w, h, d = SIZES[size]
            expected = []
            x = 0
            for char, gap in zip("x+y=z", (0, thin, thin, wide, wide)):
                x += gap
                expected.append((x, 0, leaf(size, char)))
                x += w
            self.assertEqual(self.box(tree_of("x+y=z"), size), ("row", x, h, d, tuple(expected)))

    def test_a_row_counts_its_items_by_itself(self):
        box = self.box(("row", (("sign", "x"), tree_of("+y,"), ("sign", "+"), ("sign", "z"))), 1)
        inner = ("row", 18, 8, 2, ((0, 0, leaf(1, "+")), (6, 0, leaf(1, "y")), (12, 0, leaf(1, ","))))
        self.assertEqual(box, ("row", 42, 8, 2, (
            (0, 0, leaf(1, "x")), (6, 0, inner), (27, 0, leaf(1, "+")), (36, 0, leaf(1, "z")))))

    def test_fractions(self):
        for size, smaller in ((0, 1), (1, 2), (2, 2)):
            sw, sh, sd = SIZES[smaller]
            math = self.book.math_of(size)
            a = ("row", 2 * sw, sh, sd, ((0, 0, leaf(smaller, "x")), (sw, 0, leaf(smaller, "y"))))
            b = ("row", sw, sh, sd, ((0, 0, leaf(smaller, "z")),))
            w = 2 * sw + 2 * math.space
            expected = hull("over", [
                (math.space, math.axis + math.bar + math.space + sd, a),
                (0, math.axis, bar_box(w, math.bar, 0)),
                ((w - sw) // 2, math.axis - math.space - sh, b),
            ])
            tree = tree_of("\\over{xy}{z}")[1][0]
            self.assertEqual(self.box(tree, size), expected)

    def test_scripts(self):
        for size, smaller in ((0, 1), (1, 2), (2, 2)):
            w, h, d = SIZES[size]
            _, sh, sd = SIZES[smaller]
            math = self.book.math_of(size)
            x = w + math.space
            up = max(math.up, h - sh // 2)
            low = min(-math.down, -d)
            tree = tree_of("x^y")[1][0]
            self.assertEqual(self.box(tree, size), hull("script", [(0, 0, leaf(size, "x")), (x, up, leaf(smaller, "y"))]))
            tree = tree_of("x_y")[1][0]
            self.assertEqual(self.box(tree, size), hull("script", [(0, 0, leaf(size, "x")), (x, low, leaf(smaller, "y"))]))
            tree = tree_of("x_z^y")[1][0]
            raised = up + max(0, math.space - (up - sd - low - sh))
            self.assertEqual(self.box(tree, size), hull("script", [
                (0, 0, leaf(size, "x")), (x, raised, leaf(smaller, "y")), (x, low, leaf(smaller, "z"))]))

    def test_roots_fences_and_grids_keep_the_size(self):
        for size in (0, 1, 2):
            w, h, d = SIZES[size]
            math = self.book.math_of(size)
            row = ("row", w, h, d, ((0, 0, leaf(size, "x")),))
            self.assertEqual(self.box(tree_of("\\root{x}")[1][0], size), hull("root", [
                (0, 0, ("grow", math.rootwide, h + math.space + math.bar, d, ("root",))),
                (math.rootwide, 0, row), (math.rootwide, h + math.space, bar_box(w, math.bar, 0))]))
            total, wide = math.bracket("(", 2 * max(h - math.axis, d + math.axis))
            self.assertEqual(self.box(tree_of("\\fence{(.}{x}")[1][0], size), hull("fence", [
                (0, math.axis, ("grow", wide, (total + 1) // 2, total // 2, ("(",))), (wide, 0, row)]))
            self.assertEqual(self.box(tree_of("\\fence{.(}{x}")[1][0], size), hull("fence", [
                (0, 0, row), (w, math.axis, ("grow", wide, (total + 1) // 2, total // 2, ("(",)))]))
            top = math.axis + (2 * h + 2 * d + math.space + 1) // 2
            self.assertEqual(self.box(tree_of("\\grid{x&x\\\\x&x}")[1][0], size), hull("grid", [
                (0, top - h, row), (w + math.space, top - h, row),
                (0, top - 2 * h - d - math.space, row), (w + math.space, top - 2 * h - d - math.space, row)]))

    def test_sizes_inside_one_another(self):
        def sizes_in(box):
            if box[0] == "sign":
                return [box[4][1] + str(NAMES.index(box[4][0]))]
            return [name for part in (box[4] if box[0] not in ("bar", "grow") else ()) for name in sizes_in(part[2])]

        for text, size, found in (
            ("x^{y^{z^b}}", 0, ["x0", "y1", "z2", "b2"]),
            ("x_{y_{z_b}}", 0, ["x0", "y1", "z2", "b2"]),
            ("\\over{x}{\\over{y}{\\over{z}{b}}}", 0, ["x1", "y2", "z2", "b2"]),
            ("\\root{x^y}", 1, ["x1", "y2"]),
            ("\\fence{()}{x^y}+\\grid{x&y_z}", 0, ["x0", "y1", "+0", "x0", "y0", "z1"]),
            ("{x^y}_z^{\\root{b}}", 0, ["x0", "y1", "b1", "z1"]),
            ("\\over{x^y}{z_b}", 0, ["x1", "y2", "z1", "b2"]),
            ("x^y", 2, ["x2", "y2"]),
        ):
            with self.subTest(text):
                self.assertEqual(sizes_in(self.box(tree_of(text), size)), found)

    def test_the_measures_of_its_own_size(self):
        # A fraction in an upper part has the measures of size 1, its sides have size 2.
        box = self.box(tree_of("x^{\\over{y}{z}}"), 0)
        fraction = box[4][0][2][4][1][2][4][0][2]
        self.assertEqual(fraction, ("over", 7, 12, 5, (
            (2, 7, ("row", 3, 5, 1, ((0, 0, leaf(2, "y")),))), (0, 3, bar_box(7, 1, 0)),
            (2, -4, ("row", 3, 5, 1, ((0, 0, leaf(2, "z")),))))))

    def test_deep_trees(self):
        tree = tree_of("x")
        for _ in range(60):
            tree = ("row", (("root", tree),))
        self.assertEqual(formula_box(self.book, tree, 0)[1], 60 * 8 + 10)
        self.assertIsNone(missing_sign(self.book, tree, 0))


class MissingTest(Case):

    def setUp(self):
        self.book = Book(FONTS, MATHS)

    def missing(self, text, size):
        return self.answer(missing_sign, self.book, tree_of(text), size)

    def test_none(self):
        for text in ("", "x+y=z", "\\over{x^y}{z_b}", "\\grid{&}", "x^{}"):
            for size in (0, 1, 2):
                self.assertIsNone(self.missing(text, size))

    def test_signs(self):
        for size, own in ((0, "B"), (1, "M"), (2, "L")):
            for char in "BML":
                self.assertEqual(self.missing(char, size), None if char == own else char)
                self.assertEqual(self.answer(missing_sign, self.book, ("sign", char), size), None if char == own else char)

    def test_the_order_of_writing(self):
        for text, char in (
            ("x!?", "!"), ("x?!", "?"), ("x{y!}?", "!"),
            ("\\over{!}{?}", "!"), ("\\over{x}{?}!", "?"), ("\\over{?}{!}", "?"),
            ("!^?_\"", "!"), ("x^?_!", "?"), ("x_!^?", "?"), ("x_!", "!"), ("x_!^y", "!"), ("x^y?", "?"),
            ("\\root{!}?", "!"), ("\\fence{[]}{!}?", "!"), ("\\fence{[]}{x}?", "?"), ("\\fence{[]}{x}", None),
            ("\\grid{x&!\\\\?&x}", "!"), ("\\grid{x&y\\\\?&!}", "?"), ("\\grid{x&y\\\\x&y}!", "!"),
        ):
            with self.subTest(text):
                self.assertEqual(self.missing(text, 0), char)

    def test_at_a_smaller_size_alone(self):
        for text, size, char in (
            ("B^M", 0, None), ("B^B", 0, "B"), ("B_B", 0, "B"), ("M^M", 0, "M"), ("M_L", 1, None), ("M^M", 1, "M"),
            ("L^L", 2, None), ("L_L", 2, None), ("L^M", 2, "M"),
            ("\\over{M}{M}", 0, None), ("\\over{B}{M}", 0, "B"), ("\\over{M}{B}", 0, "B"), ("\\over{L}{L}", 1, None),
            ("\\over{L}{L}", 2, None), ("\\over{M}{M}", 1, "M"),
            ("\\root{B}", 0, None), ("\\fence{()}{B}", 0, None), ("\\grid{B}", 0, None), ("\\root{M}", 0, "M"),
            ("\\fence{()}{M}", 0, "M"), ("\\grid{M}", 0, "M"), ("{B^{M^{L^{L}}}}", 0, None), ("B^{M^{L^M}}", 0, "M"),
        ):
            with self.subTest((text, size)):
                self.assertEqual(self.missing(text, size), char)


class MarkTest(Case):

    def test_marks(self):
        book = Book(FONTS, MATHS)
        for number in (1, 9, 10, 42, 333, 123456789):
            digits = str(number)
            row = ("row", 6 * len(digits), 8, 2, tuple((6 * k, 0, leaf(1, digit)) for k, digit in enumerate(digits)))
            self.assertEqual(self.answer(note_mark, book, number), ("mark", 6 * len(digits), 15, 0, ((0, 7, row),)))

    def test_no_kerns_and_no_joins(self):
        fonts = (told_font("f", {"1": 6, "2": 4, "12": 3}, kerns=(("1", "2", -2), ("2", "1", 5), ("12", "1", 1)),
                           joins=(("1", "2", "12"),)),)
        book = Book(fonts, (told(SIZE, up=0),) * 3)
        one, two = ("sign", 6, 4, 0, ("f", "1", "1")), ("sign", 4, 4, 0, ("f", "2", "2"))
        row = ("row", 16, 4, 0, ((0, 0, one), (6, 0, two), (10, 0, one)))
        self.assertEqual(note_mark(book, 121), ("mark", 16, 4, 0, ((0, 0, row),)))

    def test_deep_digits(self):
        fonts = (told_font("f", {"7": (5, 1, 9)}),)
        book = Book(fonts, (told(SIZE, up=4),) * 3)
        digit = ("sign", 5, 1, 9, ("f", "7", "7"))
        self.assertEqual(note_mark(book, 7), ("mark", 5, 5, 5, ((0, 4, ("row", 5, 1, 9, ((0, 0, digit),))),)))


if __name__ == "__main__":
    unittest.main()
