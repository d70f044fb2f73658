"""Sheets: the size of the page and the styles."""

from galleywork.errors import BadSheet
from galleywork.fontcheck import good_triple
from galleywork.glue import Glue

STYLE_NAMES = ("back", "caption", "cell", "display", "head", "item", "note", "par", "quote")
ALIGNMENTS = ("full", "left", "centre", "right")


class Style:
    """How the lines of a kind of block are set."""

    def __init__(self, told):
        name, font, strong, left, measure, indent, align, ahead, between = told
        self.name = name
        self.font = font
        self.strong = strong
        self.left = left
        self.measure = measure
        self.indent = indent
        self.align = align
        self.ahead = Glue(ahead[0], ahead[1], ahead[2])
        self.between = Glue(between[0], between[1], between[2])

    @property
    def room(self):
        """The width of a first line."""
        return self.measure - self.indent


class Sheet:
    """A book, the size of the page, and the styles."""

    def __init__(self, book, measure, height, styles, *, floats=1, rule=1, float_gap=1, column_gap=1):
        self.book = book
        self.measure = measure
        self.height = height
        self.floats = floats
        self.rule = rule
        self.float_gap = float_gap
        self.column_gap = column_gap
        self._check_numbers()
        self._check_styles(styles)
        self._told_styles = tuple(styles)
        self._styles = {told[0]: Style(told) for told in styles}

    def style_of(self, name):
        """Returns the style of a name."""
        return self._styles[name]

    def changed(self, **changes):
        """Returns a new sheet with the same book and the given values."""
        given = {
            "measure": self.measure, "height": self.height, "styles": self._told_styles, "floats": self.floats,
            "rule": self.rule, "float_gap": self.float_gap, "column_gap": self.column_gap,
        }
        for key in changes:
            if key not in given:
                raise BadSheet(key)
            given[key] = changes[key]
        return Sheet(
            self.book, given["measure"], given["height"], given["styles"], floats=given["floats"],
            rule=given["rule"], float_gap=given["float_gap"], column_gap=given["column_gap"],
        )

    def _check_numbers(self):
        """Refuses the first number that is not within its bounds."""
        bounds = (
            ("measure", self.measure, 1, 10000), ("height", self.height, 1, 10000), ("floats", self.floats, 1, 9),
            ("rule", self.rule, 1, 100), ("float_gap", self.float_gap, 0, 1000),
            ("column_gap", self.column_gap, 0, 1000),
        )
        for what, number, low, high in bounds:
            if not low <= number <= high:
                raise BadSheet(what)

    def _check_styles(self, styles):
        """Refuses told styles with other names, and then the first style that breaks a rule."""
        if tuple([told[0] for told in styles]) != STYLE_NAMES:
            raise BadSheet("styles")
        for told in styles:
            if not self._good_style(told):
                raise BadSheet(told[0])

    def _good_style(self, told):
        """Tells whether a told style keeps all rules."""
        _, font, strong, left, measure, indent, align, ahead, between = told
        if not self.book.has_font(font) or not self.book.has_font(strong):
            return False
        if left < 0 or measure < 1 or left + measure > self.measure or not 0 <= indent < measure:
            return False
        if align not in ALIGNMENTS or not good_triple(ahead) or not good_triple(between):
            return False
        fonts = [self.book.font_of(name) for name in (font, strong)]
        return all([2 * used.widest + used.kern_most <= measure - indent for used in fonts])
