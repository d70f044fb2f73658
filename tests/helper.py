"""What the tests share."""

import copy
import unittest

from galleywork import errors
from galleywork.book import Book
from galleywork.chars import WORD_CHARS
from galleywork.formboxes import formula_box, note_mark
from galleywork.maths import MathSize
from galleywork.numbering import resolve
from galleywork.reading import read_text
from galleywork.shaping import word_box
from galleywork.sheet import Sheet, Style
from galleywork.solids import solids_of
from galleywork.strip import Strip
from galleywork.tokens import tokenize
from galleywork.works import Works

FIELDS = {
    "BadText": ("line", "column", "what"),
    "TooLong": ("what",),
    "BadFont": ("name", "what"),
    "BadPattern": ("pattern",),
    "BadMaths": ("size", "what"),
    "BadSheet": ("what",),
    "NoSign": ("letter", "block"),
    "TooWide": ("block",),
    "TooTall": ("block",),
    "BadTask": ("state",),
    "BadDevice": ("line",),
    "BadEdit": ("what",),
    "NoText": ("name",),
    "BadDeed": ("place",),
}


# What a line task remembers of the question before may change.
REMEMBERED = ("_asked", "_lines")


def fields_of(error):
    """The class name and the fields of an error of the package."""
    name = type(error).__name__
    return (name, *[getattr(error, field) for field in FIELDS[name]])


def tokens_of(text):
    """The tokens of a text without their lines and columns, as pairs (kind, value)."""
    return [token[:2] for token in tokenize(text)]


def laid_open(value):
    """A value with all objects in it told by their classes and what they hold, to be compared."""
    if isinstance(value, (list, tuple)):
        return type(value)([laid_open(item) for item in value])
    if isinstance(value, dict):
        return {key: laid_open(item) for key, item in value.items()}
    if hasattr(value, "__dict__") and not callable(value):
        held = {name: laid_open(item) for name, item in vars(value).items() if name not in REMEMBERED}
        return (type(value).__name__, held)
    return value


class Case(unittest.TestCase):
    """A test case that looks closely at errors and answers."""

    maxDiff = None

    def refused(self, error, call, *args, **named):
        """The call raises just this error, and changes none of its arguments."""
        before = laid_open(copy.deepcopy((args, named)))
        with self.assertRaises(errors.GalleyError) as caught:
            call(*args, **named)
        self.assertEqual(fields_of(caught.exception), fields_of(error))
        self.assertIs(type(caught.exception), type(error))
        self.assertIsInstance(caught.exception, ValueError)
        others = [name for name in FIELDS if isinstance(caught.exception, getattr(errors, name))]
        self.assertEqual(others, [type(error).__name__])
        self.assertEqual(laid_open((args, named)), before)

    def answer(self, call, *args):
        """Calls twice, spoils the first answer between, and returns the answer, which has to be the same."""
        before = laid_open(copy.deepcopy(args))
        first = call(*args)
        kept = copy.deepcopy(first)
        if isinstance(first, list):
            first.clear()
            first.append("spoilt")
        elif isinstance(first, dict):
            first.clear()
            first["spoilt"] = True
        self.assertEqual(laid_open(call(*args)), laid_open(kept))
        self.assertEqual(laid_open(args), before)
        return kept


class Dice:
    """A row of numbers that looks random and is the same in each run."""

    def __init__(self, seed):
        self.state = seed * 2654435761 % (1 << 32) + 1

    def below(self, bound):
        """The next number from 0 to bound - 1."""
        self.state = (self.state * 6364136223846793005 + 1442695040888963407) % (1 << 64)
        return (self.state >> 33) % bound

    def pick(self, row):
        """An item of a row."""
        return row[self.below(len(row))]


SIGNS = (
    ("-", 2, 4, 0), (".", 2, 4, 0), ("0", 2, 4, 0), ("1", 2, 4, 0), ("2", 2, 4, 0), ("3", 2, 4, 0), ("4", 2, 4, 0),
    ("5", 2, 4, 0), ("6", 2, 4, 0), ("7", 2, 4, 0), ("8", 2, 4, 0), ("9", 2, 4, 0), ("a", 3, 4, 0), ("b", 4, 4, 0),
)
FONT = {"name": "f", "above": 5, "below": 2, "gap": (2, 1, 1), "signs": SIGNS, "kerns": (("a", "b", -1),), "joins": ()}
SIZE = {
    "font": "f", "axis": 2, "bar": 1, "space": 1, "up": 3, "down": 2, "wide": 2, "thin": 1, "rootwide": 3,
    "brackets": (),
}
STYLE = {
    "name": "par", "font": "f", "strong": "f", "left": 1, "measure": 18, "indent": 0, "align": "full",
    "ahead": (0, 0, 0), "between": (0, 0, 0),
}
NAMES = ("back", "caption", "cell", "display", "head", "item", "note", "par", "quote")


def told(row, **changes):
    """A told font, size or style with changes, by the names of its fields."""
    assert set(changes) <= set(row)
    return tuple({**row, **changes}.values())


def told_styles(**changes):
    """The nine told styles; each change names a style and gives a dict of the fields that it changes."""
    return tuple(told(STYLE, **{"name": name, **changes.get(name, {})}) for name in NAMES)


def told_font(name, signs, *, above=20, below=10, gap=(2, 1, 1), kerns=(), joins=()):
    """A told font; signs is a dict from signs to their widths, or to the tuples (width, height, depth)."""
    sizes = {char: (2, 4, 0) for char in "-.0123456789"}
    for sign, size in signs.items():
        sizes[sign] = (size, 4, 0) if isinstance(size, int) else size
    rows = tuple((sign, *sizes[sign]) for sign in sorted(sizes))
    return (name, above, below, gap, rows, tuple(sorted(kerns)), tuple(sorted(joins)))


def math_of(**changes):
    """Measures of formulas of size 0, with changes."""
    return MathSize(0, told(SIZE, **changes))


def style_of(**changes):
    """A style, with changes."""
    return Style(told(STYLE, **changes))


class StandIn:
    """A works object without a sheet."""

    def __init__(self, book):
        self.book = book

    def word(self, font, letters, kind):
        return word_box(self.book.font_of(font), letters, kind)

    def formula(self, row):
        return formula_box(self.book, row, 0)

    def mark(self, n):
        return note_mark(self.book, n)


def book_of(*fonts, patterns=(), exceptions=(), smaller=None, **size):
    """A book of told fonts.

    size changes the measures of all formulas; smaller gives the font of the sizes 1 and 2, if it is another one.
    """
    row = {**SIZE, "font": fonts[0][0], **size}
    sizes = (told(row), *(told({**row, "font": smaller or row["font"]}),) * 2)
    return Book(fonts, sizes, patterns=patterns, exceptions=exceptions)


def works_of(*fonts, patterns=(), exceptions=(), smaller=None, **size):
    """A stand-in for a works object with the book of told fonts."""
    return StandIn(book_of(*fonts, patterns=patterns, exceptions=exceptions, smaller=smaller, **size))


def row_of(text):
    """The row of a formula without commands."""
    return ("row", tuple(("sign", char) for char in text))


def ways_from(task, state):
    """All ways from a state, as tuples of states, in the order of the steps; for small tasks."""
    if task.is_end(state):
        return [(state,)]
    found = []
    for _, after in task.steps(state):
        found.extend((state, *way) for way in ways_from(task, after) if (state, *way) not in found)
    return found


def plain_cost(task, way):
    """The cost of a way, by the words of the document."""
    return sum(min(cost for cost, after in task.steps(one) if after == two) for one, two in zip(way, way[1:]))


def random_rows(dice, count, costs, many=4):
    """The rows of a table task with some steps from each state."""
    rows = []
    for k in range(count - 1):
        steps = dice.below(many)
        rows.append([(dice.pick(costs), k + 1 + dice.below(count - 1 - k)) for _ in range(steps)])
    return rows + [[]]


def inlines_of(text):
    """The resolved inlines of a text that is one paragraph."""
    block, = resolve(read_text(text))
    return block[1]


def strip_of(works, style, text, measure=None):
    """The strip of a text that is one paragraph, or of no solids for the empty text."""
    solids, joints, _ = solids_of(style, inlines_of(text) if text else ())
    return Strip(works, style, style.measure if measure is None else measure, solids, joints)


def demo_sheet(styles=None, **changes):
    """The sheet of the example of the document, with changes of its styles and of its own."""
    told_ones = told_styles(**{"par": {"indent": 2}, **(styles or {})})
    row = {"measure": 20, "height": 30, **changes}
    return Sheet(Book((told(FONT),), (told(SIZE),) * 3), row.pop("measure"), row.pop("height"), told_ones, **row)


def _rich_font(name, above, below, by, kerns, joins):
    """A told font with all word characters; by moves their sizes."""
    signs = {}
    for sign in list(WORD_CHARS) + sorted({new for _, _, new in joins}):
        k = sum(map(ord, sign)) * 7 + by
        signs[sign] = (2 + k % 4, k % (above + 1), k // 3 % (below + 1))
    return told_font(name, signs, above=above, below=below, gap=(3, 2, 1), kerns=kerns, joins=joins)


RICH_FONTS = (
    _rich_font("f", 8, 3, 0, (("a", "b", -1), ("e", "-", -1), ("o", "n", 1), ("fi", "n", 1)),
               (("f", "f", "ff"), ("f", "i", "fi"), ("ff", "i", "ffi"), ("t", "-", "t-"))),
    _rich_font("m", 7, 3, 1, (), ()),
    _rich_font("n", 5, 2, 2, (("a", "b", 1),), ()),
    _rich_font("s", 9, 4, 3, (("a", "a", -1),), (("t", "t", "tt"),)),
)
RICH_SIZES = (
    ("m", 2, 1, 1, 3, 2, 2, 1, 4, (("(", 4, 2), ("(", 9, 3), (")", 4, 2), (")", 9, 3), ("[", 6, 2))),
    ("n", 1, 1, 1, 2, 1, 1, 1, 3, (("(", 3, 1), (")", 3, 1))),
    ("n", 1, 1, 0, 1, 1, 1, 0, 2, ()),
)
RICH_STYLES = {
    "back": {"font": "n", "left": 2, "measure": 40, "indent": 1, "align": "left", "ahead": (1, 2, 1), "between": (0, 1, 0)},
    "caption": {"font": "n", "left": 6, "measure": 40, "indent": 2, "align": "centre"},
    "cell": {"font": "n", "left": 3, "measure": 13, "indent": 1, "align": "right", "ahead": (2, 2, 1), "between": (1, 1, 1)},
    "display": {"left": 4, "measure": 48, "indent": 5, "align": "left", "ahead": (3, 2, 2), "between": (1, 0, 1)},
    "head": {"font": "s", "strong": "f", "measure": 58, "align": "left", "ahead": (6, 4, 3), "between": (1, 1, 0)},
    "item": {"left": 8, "measure": 50, "indent": 3, "align": "full", "ahead": (1, 1, 1), "between": (0, 1, 0)},
    "note": {"font": "n", "left": 5, "measure": 44, "indent": 2, "align": "full"},
    "par": {"left": 1, "measure": 56, "indent": 6, "align": "full", "ahead": (2, 3, 1), "between": (1, 1, 1)},
    "quote": {"left": 10, "measure": 40, "align": "centre", "ahead": (3, 3, 3), "between": (0, 2, 0)},
}


def rich_sheet(styles=None, **changes):
    """A sheet with four fonts of all word characters, whose styles differ from each other, with changes."""
    rows = {name: {"strong": "s", **row, **(styles or {}).get(name, {})} for name, row in RICH_STYLES.items()}
    book = Book(RICH_FONTS, RICH_SIZES, patterns=("1na", "e1", "1ba", "a2b", ".ab1"), exceptions=("ta-ble", "abba"))
    row = {"measure": 60, "height": 90, "floats": 2, "rule": 1, "float_gap": 2, "column_gap": 3, **changes}
    return Sheet(book, row.pop("measure"), row.pop("height"), told_styles(**rows), **row)


def blocks_of(text):
    """The resolved blocks of a text."""
    return resolve(read_text(text))


def real_works(sheet=None):
    """A works object for a sheet, the rich one if none is given."""
    return Works(sheet or rich_sheet())
