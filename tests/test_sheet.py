"""Styles and sheets: [19]."""

import unittest

from galleywork.book import Book
from galleywork.errors import BadSheet
from galleywork.glue import Glue
from galleywork.sheet import STYLE_NAMES, Sheet, Style
from helper import FONT, NAMES, SIGNS, SIZE, STYLE, Case, told, told_styles

F = told(FONT)
WIDE = told(FONT, name="wide", signs=SIGNS[:-1] + (("b", 7, 4, 0),), kerns=(("b", "b", 3),))
BOOK = Book((F, WIDE), (told(SIZE),) * 3)
NUMBERS = {"measure": 20, "height": 30, "floats": 2, "rule": 3, "float_gap": 4, "column_gap": 5}
BOUNDS = (("measure", 1, 10000), ("height", 1, 10000), ("floats", 1, 9), ("rule", 1, 100), ("float_gap", 0, 1000),
          ("column_gap", 0, 1000))


def sheet_of(styles=None, **numbers):
    """A sheet with these numbers."""
    given = {**NUMBERS, **numbers}
    measure, height = given.pop("measure"), given.pop("height")
    return Sheet(BOOK, measure, height, told_styles() if styles is None else styles, **given)


def numbers_of(sheet):
    """The numbers of a sheet as a dict."""
    return {name: getattr(sheet, name) for name in NUMBERS}


class StyleTest(Case):

    def test_fields(self):
        style = Style(("head", "f", "g", 1, 18, 4, "left", (1, 2, 1), (3, 5, 2)))
        self.assertEqual(
            (style.name, style.font, style.strong, style.left, style.measure, style.indent, style.align),
            ("head", "f", "g", 1, 18, 4, "left"))
        self.assertIsInstance(style.ahead, Glue)
        self.assertIsInstance(style.between, Glue)
        self.assertEqual((style.ahead.plain(), style.between.plain()), ((1, 2, 1), (3, 5, 2)))

    def test_room(self):
        for measure, indent, room in ((18, 4, 14), (18, 0, 18), (5, 4, 1)):
            self.assertEqual(Style(told(STYLE, measure=measure, indent=indent)).room, room)
        self.assertIsInstance(vars(Style)["room"], property)

    def test_nothing_is_checked(self):
        style = Style(("", "", "", -1, 0, 5, "up", (0, 0, 9), (-1, 0, 0)))
        self.assertEqual((style.left, style.room, style.align, style.ahead.plain()), (-1, -5, "up", (0, 0, 9)))


class SheetTest(Case):

    def test_style_names(self):
        self.assertEqual(STYLE_NAMES, ("back", "caption", "cell", "display", "head", "item", "note", "par", "quote"))

    def test_fields(self):
        sheet = sheet_of()
        self.assertIs(sheet.book, BOOK)
        self.assertEqual(numbers_of(sheet), NUMBERS)

    def test_default_values(self):
        sheet = Sheet(BOOK, 20, 30, told_styles())
        self.assertEqual(numbers_of(sheet), {
            "measure": 20, "height": 30, "floats": 1, "rule": 1, "float_gap": 1, "column_gap": 1})
        with self.assertRaises(TypeError):
            Sheet(BOOK, 20, 30, told_styles(), 1)

    def test_style_of(self):
        sheet = sheet_of(told_styles(head={"left": 0, "indent": 3}, quote={"align": "right"}))
        for name in STYLE_NAMES:
            self.assertIsInstance(sheet.style_of(name), Style)
            self.assertEqual(sheet.style_of(name).name, name)
        self.assertEqual([sheet.style_of(name).indent for name in ("head", "par")], [3, 0])
        self.assertEqual([sheet.style_of(name).left for name in ("head", "par")], [0, 1])
        self.assertEqual(sheet.style_of("quote").align, "right")

    def test_what_was_told_stays(self):
        styles = told_styles()
        sheet_of(styles).changed(height=5)
        self.assertEqual(styles, told_styles())


class BoundTest(Case):

    def test_bounds(self):
        for what, low, high in BOUNDS:
            # The styles need a measure of 19 at least.
            for number in (19 if what == "measure" else low, high):
                with self.subTest((what, number)):
                    self.assertEqual(getattr(sheet_of(**{what: number}), what), number)
            for number in (low - 1, high + 1, -7):
                with self.subTest((what, number)):
                    self.refused(BadSheet(what), sheet_of, **{what: number})

    def test_a_measure_of_1_is_not_refused_as_such(self):
        self.refused(BadSheet("back"), sheet_of, measure=1)

    def test_the_order_of_the_numbers(self):
        for k, (what, _, _) in enumerate(BOUNDS):
            for later, _, _ in BOUNDS[k + 1:]:
                self.refused(BadSheet(what), sheet_of, **{what: -1, later: -1})
            self.refused(BadSheet(what), sheet_of, (), **{what: -1})


class StyleRuleTest(Case):

    def good(self, **changes):
        for name in NAMES:
            with self.subTest((name, changes)):
                self.assertIsInstance(sheet_of(told_styles(**{name: changes})), Sheet)

    def bad(self, **changes):
        for name in NAMES:
            with self.subTest((name, changes)):
                self.refused(BadSheet(name), sheet_of, told_styles(**{name: changes}))

    def test_names(self):
        styles = told_styles()
        for wrong in ((), styles[1:], styles[:-1], styles + styles[:1], styles + styles[-1:], styles[::-1],
                      (styles[1], styles[0], *styles[2:]), (styles[0], *styles[:-1]),
                      (*styles[:4], *styles[5:], styles[4]), (told(STYLE, name="Back"), *styles[1:])):
            self.refused(BadSheet("styles"), sheet_of, wrong)
        self.refused(BadSheet("styles"), sheet_of, (told(STYLE, name="back", left=-1), *styles[2:]))

    def test_fonts(self):
        self.good(font="wide")
        self.good(strong="wide")
        self.bad(font="g")
        self.bad(strong="g")
        self.bad(font="")

    def test_left_and_measure(self):
        self.good(left=0, measure=20)
        self.good(left=2)
        self.good(left=12, measure=8)
        self.bad(left=-1)
        self.bad(left=3)
        self.bad(measure=20)
        self.bad(left=0, measure=21)
        self.bad(measure=0)
        self.bad(measure=-1)

    def test_indent(self):
        self.good(indent=10)
        self.bad(indent=-1)
        self.bad(indent=18)
        self.bad(indent=17)
        self.bad(indent=19)

    def test_align(self):
        for align in ("full", "left", "centre", "right"):
            self.good(align=align)
        for align in ("", "center", "Full", "up", "f", "full "):
            self.bad(align=align)

    def test_triples(self):
        for field in ("ahead", "between"):
            for triple in ((0, 0, 0), (1000, 1000, 1000), (3, 0, 3)):
                self.good(**{field: triple})
            for triple in ((1001, 0, 0), (0, 1001, 0), (1000, 0, 1001), (-1, 0, 0), (0, -1, 0), (0, 0, -1), (0, 0, 1)):
                self.bad(**{field: triple})

    def test_room(self):
        # f needs 2 * 4 + 0, and wide needs 2 * 7 + 3.
        self.good(measure=8)
        self.bad(measure=7)
        self.good(measure=10, indent=2)
        self.bad(measure=10, indent=3)
        for field in ("font", "strong"):
            self.good(**{field: "wide", "measure": 17})
            self.bad(**{field: "wide", "measure": 16})
            self.bad(**{field: "wide", "measure": 18, "indent": 2})
            self.good(**{field: "wide", "measure": 18, "indent": 1})
        self.good(font="wide", strong="wide", measure=17)
        self.bad(font="wide", strong="wide", measure=16)

    def test_the_first_style_in_order(self):
        self.refused(BadSheet("cell"), sheet_of, told_styles(cell={"left": -1}, par={"font": "g"}))
        self.refused(BadSheet("back"), sheet_of, told_styles(quote={"left": -1}, back={"align": ""}))


class ChangedTest(Case):

    def setUp(self):
        self.sheet = sheet_of(told_styles(head={"indent": 3}))

    def test_nothing(self):
        new = self.sheet.changed()
        self.assertIsInstance(new, Sheet)
        self.assertIsNot(new, self.sheet)
        self.assertIs(new.book, BOOK)
        self.assertEqual(numbers_of(new), NUMBERS)
        self.assertEqual(new.style_of("head").indent, 3)

    def test_one(self):
        for name in NUMBERS:
            number = NUMBERS[name] + 1
            new = self.sheet.changed(**{name: number})
            self.assertEqual(numbers_of(new), {**NUMBERS, name: number})
            self.assertEqual(new.style_of("head").indent, 3)
            self.assertIs(new.book, BOOK)
            self.assertEqual(numbers_of(self.sheet), NUMBERS)

    def test_styles(self):
        new = self.sheet.changed(styles=told_styles(head={"indent": 5}))
        self.assertEqual((new.style_of("head").indent, self.sheet.style_of("head").indent), (5, 3))
        self.assertEqual(numbers_of(new), NUMBERS)
        self.assertEqual(new.changed(height=7).style_of("head").indent, 5)

    def test_all(self):
        numbers = {"measure": 40, "height": 50, "floats": 9, "rule": 8, "float_gap": 0, "column_gap": 0}
        new = self.sheet.changed(styles=told_styles(par={"measure": 39}), **numbers)
        self.assertEqual(numbers_of(new), numbers)
        self.assertEqual((new.style_of("par").measure, new.style_of("head").indent), (39, 0))
        self.assertEqual(numbers_of(self.sheet), NUMBERS)
        self.assertEqual(numbers_of(new.changed(**NUMBERS, styles=told_styles())), NUMBERS)

    def test_other_keys(self):
        for key in ("book", "pages", "Measure", "style"):
            self.refused(BadSheet(key), self.sheet.changed, **{key: 1})
            self.refused(BadSheet(key), self.sheet.changed, measure=-1, **{key: 1})
            self.refused(BadSheet(key), self.sheet.changed, **{key: 1}, styles=())
        self.refused(BadSheet("two"), self.sheet.changed, height=0, two=2, one=1)
        self.refused(BadSheet("one"), self.sheet.changed, one=1, height=0, two=2)

    def test_bad_values(self):
        for what, low, high in BOUNDS:
            self.refused(BadSheet(what), self.sheet.changed, **{what: high + 1})
            self.refused(BadSheet(what), self.sheet.changed, **{what: low - 1})
        self.refused(BadSheet("height"), self.sheet.changed, rule=0, height=0)
        self.refused(BadSheet("styles"), self.sheet.changed, styles=())
        self.refused(BadSheet("back"), self.sheet.changed, measure=18)
        self.refused(BadSheet("head"), self.sheet.changed, styles=told_styles(head={"indent": -1}))

    def test_a_refusal_changes_nothing(self):
        self.refused(BadSheet("rule"), self.sheet.changed, height=9, rule=0)
        self.assertEqual(numbers_of(self.sheet), NUMBERS)
        self.assertEqual(self.sheet.style_of("head").indent, 3)


if __name__ == "__main__":
    unittest.main()
