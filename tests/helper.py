"""What the tests share."""

import copy
import unittest

from galleywork import errors
from galleywork.tokens import tokenize

FIELDS = {
    "BadText": ("line", "column", "what"),
    "TooLong": ("what",),
    "BadFont": ("name", "what"),
    "BadPattern": ("pattern",),
    "BadMaths": ("size", "what"),
    "BadSheet": ("what",),
    "NoSign": ("letter", "block"),
    "TooWide": ("block",),
    "TooTall": ("block",),
    "BadTask": ("state",),
    "BadDevice": ("line",),
    "BadEdit": ("what",),
    "NoText": ("name",),
    "BadDeed": ("place",),
}


def fields_of(error):
    """The class name and the fields of an error of the package."""
    name = type(error).__name__
    return (name, *[getattr(error, field) for field in FIELDS[name]])


def tokens_of(text):
    """The tokens of a text without their lines and columns, as pairs (kind, value)."""
    return [token[:2] for token in tokenize(text)]


class Case(unittest.TestCase):
    """A test case that looks closely at errors and answers."""

    maxDiff = None

    def refused(self, error, call, *args, **named):
        """The call raises just this error, and changes none of its arguments."""
        before = copy.deepcopy((args, named))
        with self.assertRaises(errors.GalleyError) as caught:
            call(*args, **named)
        self.assertEqual(fields_of(caught.exception), fields_of(error))
        self.assertIs(type(caught.exception), type(error))
        self.assertIsInstance(caught.exception, ValueError)
        others = [name for name in FIELDS if isinstance(caught.exception, getattr(errors, name))]
        self.assertEqual(others, [type(error).__name__])
        self.assertEqual(args, before[0])
        self.assertEqual(named, before[1])

    def answer(self, call, *args):
        """Calls twice, spoils the first answer between, and returns the answer, which has to be the same."""
        before = copy.deepcopy(args)
        first = call(*args)
        kept = copy.deepcopy(first)
        if isinstance(first, list):
            first.clear()
            first.append("spoilt")
        elif isinstance(first, dict):
            first.clear()
            first["spoilt"] = True
        self.assertEqual(call(*args), kept)
        self.assertEqual(args, before)
        return kept


class Dice:
    """A row of numbers that looks random and is the same in each run."""

    def __init__(self, seed):
        self.state = seed * 2654435761 % (1 << 32) + 1

    def below(self, bound):
        """The next number from 0 to bound - 1."""
        self.state = (self.state * 6364136223846793005 + 1442695040888963407) % (1 << 64)
        return (self.state >> 33) % bound

    def pick(self, row):
        """An item of a row."""
        return row[self.below(len(row))]


SIGNS = (
    ("-", 2, 4, 0), (".", 2, 4, 0), ("0", 2, 4, 0), ("1", 2, 4, 0), ("2", 2, 4, 0), ("3", 2, 4, 0), ("4", 2, 4, 0),
    ("5", 2, 4, 0), ("6", 2, 4, 0), ("7", 2, 4, 0), ("8", 2, 4, 0), ("9", 2, 4, 0), ("a", 3, 4, 0), ("b", 4, 4, 0),
)
FONT = {"name": "f", "above": 5, "below": 2, "gap": (2, 1, 1), "signs": SIGNS, "kerns": (("a", "b", -1),), "joins": ()}
SIZE = {
    "font": "f", "axis": 2, "bar": 1, "space": 1, "up": 3, "down": 2, "wide": 2, "thin": 1, "rootwide": 3,
    "brackets": (),
}
STYLE = {
    "name": "par", "font": "f", "strong": "f", "left": 1, "measure": 18, "indent": 0, "align": "full",
    "ahead": (0, 0, 0), "between": (0, 0, 0),
}
NAMES = ("back", "caption", "cell", "display", "head", "item", "note", "par", "quote")


def told(row, **changes):
    """A told font, size or style with changes, by the names of its fields."""
    assert set(changes) <= set(row)
    return tuple({**row, **changes}.values())


def told_styles(**changes):
    """The nine told styles; each change names a style and gives a dict of the fields that it changes."""
    return tuple(told(STYLE, **{"name": name, **changes.get(name, {})}) for name in NAMES)
