"""Books: fonts, measures of formulas, patterns and exceptions."""

from galleywork.errors import BadFont, BadMaths
from galleywork.fonts import Font
from galleywork.maths import MathSize
from galleywork.patterns import Patterns


class Book:
    """All that is needed to set words and formulas."""

    def __init__(self, fonts, maths, *, patterns=(), exceptions=()):
        self._fonts = _fonts_by_name([Font(told) for told in fonts])
        self._maths = []
        for size, told in enumerate(maths):
            if told[0] not in self._fonts:
                raise BadMaths(size, "font")
            self._maths.append(MathSize(size, told))
        self._patterns = Patterns(patterns, exceptions)

    def has_font(self, name):
        """Tells whether the book has a font of a name."""
        return name in self._fonts

    def font_of(self, name):
        """Returns the font of a name."""
        return self._fonts[name]

    def math_of(self, size):
        """Returns the measures of a size; above 2 they are those of size 2."""
        return self._maths[min(size, 2)]

    def points(self, word):
        """Returns the list of the places where a word may be broken."""
        return self._patterns.points(word)


def _fonts_by_name(fonts):
    """Returns the dict from the names of fonts to the fonts."""
    named = {}
    for font in fonts:
        if font.name in named:
            raise BadFont(font.name, "double")
        named[font.name] = font
    return named
