"""What the tests share."""

import copy
import unittest

from galleywork import errors
from galleywork.tokens import tokenize

FIELDS = {
    "BadText": ("line", "column", "what"),
    "TooLong": ("what",),
    "BadFont": ("name", "what"),
    "BadPattern": ("pattern",),
    "BadMaths": ("size", "what"),
    "BadSheet": ("what",),
    "NoSign": ("letter", "block"),
    "TooWide": ("block",),
    "TooTall": ("block",),
    "BadTask": ("state",),
    "BadDevice": ("line",),
    "BadEdit": ("what",),
    "NoText": ("name",),
    "BadDeed": ("place",),
}


def fields_of(error):
    """The class name and the fields of an error of the package."""
    name = type(error).__name__
    return (name, *[getattr(error, field) for field in FIELDS[name]])


def tokens_of(text):
    """The tokens of a text without their lines and columns, as pairs (kind, value)."""
    return [token[:2] for token in tokenize(text)]


class Case(unittest.TestCase):
    """A test case that looks closely at errors and answers."""

    maxDiff = None

    def refused(self, error, call, *args, **named):
        """The call raises just this error, and changes none of its arguments."""
        before = copy.deepcopy((args, named))
        with self.assertRaises(errors.GalleyError) as caught:
            call(*args, **named)
        self.assertEqual(fields_of(caught.exception), fields_of(error))
        self.assertIs(type(caught.exception), type(error))
        self.assertIsInstance(caught.exception, ValueError)
        others = [name for name in FIELDS if isinstance(caught.exception, getattr(errors, name))]
        self.assertEqual(others, [type(error).__name__])
        self.assertEqual(args, before[0])
        self.assertEqual(named, before[1])

    def answer(self, call, *args):
        """Calls twice, spoils the first answer between, and returns the answer, which has to be the same."""
        before = copy.deepcopy(args)
        first = call(*args)
        kept = copy.deepcopy(first)
        if isinstance(first, list):
            first.clear()
            first.append("spoilt")
        elif isinstance(first, dict):
            first.clear()
            first["spoilt"] = True
        self.assertEqual(call(*args), kept)
        self.assertEqual(args, before)
        return kept


class Dice:
    """A row of numbers that looks random and is the same in each run."""

    def __init__(self, seed):
        self.state = seed * 2654435761 % (1 << 32) + 1

    def below(self, bound):
        """The next number from 0 to bound - 1."""
        self.state = (self.state * 6364136223846793005 + 1442695040888963407) % (1 << 64)
        return (self.state >> 33) % bound

    def pick(self, row):
        """An item of a row."""
        return row[self.below(len(row))]
