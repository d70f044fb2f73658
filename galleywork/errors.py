"""The errors of the package, one class for each kind of failure."""


class GalleyError(ValueError):
    """The base class of all errors of the package."""


class BadText(GalleyError):
    """A text breaks a rule of its language at a place."""

    def __init__(self, line, column, what):
        self.line = line
        self.column = column
        self.what = what


class TooLong(GalleyError):
    """A text, or what its macros give, is longer than allowed."""

    def __init__(self, what):
        self.what = what


class BadFont(GalleyError):
    """A told font breaks a rule."""

    def __init__(self, name, what):
        self.name = name
        self.what = what


class BadPattern(GalleyError):
    """A pattern or an exception breaks a rule."""

    def __init__(self, pattern):
        self.pattern = pattern


class BadMaths(GalleyError):
    """A told size of formulas breaks a rule."""

    def __init__(self, size, what):
        self.size = size
        self.what = what


class BadSheet(GalleyError):
    """What is told of a sheet breaks a rule."""

    def __init__(self, what):
        self.what = what


class NoSign(GalleyError):
    """A font lacks the sign of a character."""

    def __init__(self, letter, block):
        self.letter = letter
        self.block = block


class TooWide(GalleyError):
    """A part of a block is wider than its lines."""

    def __init__(self, block):
        self.block = block


class TooTall(GalleyError):
    """A part of a block is higher than a page."""

    def __init__(self, block):
        self.block = block


class BadTask(GalleyError):
    """A row of a table task breaks a rule."""

    def __init__(self, state):
        self.state = state


class BadDevice(GalleyError):
    """A line of a device file does not fit."""

    def __init__(self, line):
        self.line = line


class BadEdit(GalleyError):
    """An edit reaches beyond the text."""

    def __init__(self, what):
        self.what = what


class NoText(GalleyError):
    """A desk has no galley of a name."""

    def __init__(self, name):
        self.name = name


class BadDeed(GalleyError):
    """An item of a batch is no deed."""

    def __init__(self, place):
        self.place = place
