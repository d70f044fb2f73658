"""Inlines: reading the inside of a paragraph and the like."""

from galleywork.errors import BadText
from galleywork.formread import read_formula
from galleywork.groups import group_end, groups_within

COMMANDS = ("strong", "note", "label", "ref", "mark")
SOLID = ("word", "formula", "note", "ref")


class Reader:
    """Reads parts of one list of tokens, and notes down the labels and refs."""

    def __init__(self, tokens):
        self.labels = []
        self.refs = []
        self._tokens = list(tokens)

    def inlines(self, lo, hi, notes):
        """Returns the tuple of the inlines of tokens[lo:hi], not trimmed."""
        found = []
        at = lo
        while at < hi:
            inline, at = self._inline_at(at, hi, notes)
            found.append(inline)
        return tuple(found)

    def _inline_at(self, at, hi, notes):
        """Returns the inline that begins at an index, and the index behind it."""
        kind, value, line, column = self._tokens[at]
        if kind == "word":
            end = self._run_end(at, hi)
            return ("word", self._joined_words(at, end)), end
        if kind == "blank":
            return ("gap",), self._run_end(at, hi)
        if kind == "tie" or kind == "hyph" or kind == "cut":
            return (kind,), at + 1
        if kind == "dollar":
            return self._formula_at(at, hi)
        if kind == "name" and value in COMMANDS:
            return self._command_at(at, hi, notes)
        raise BadText(line, column, "place")

    def _run_end(self, at, hi):
        """Returns the index behind the run of tokens of the same kind that begins at an index."""
        kind = self._tokens[at][0]
        while at < hi and self._tokens[at][0] == kind:
            at += 1
        return at

    def _joined_words(self, lo, hi):
        """Returns the word that neighbouring word tokens make."""
        return "".join([token[1] for token in self._tokens[lo:hi]])

    def _formula_at(self, at, hi):
        """Does the work of _inline_at where a dollar stands."""
        end = at + 1
        while end < hi and self._tokens[end][0] != "dollar":
            if self._tokens[end][0] == "open":
                end = group_end(self._tokens, end)
            end += 1
        if end == hi:
            raise BadText(self._tokens[at][2], self._tokens[at][3], "formula")
        return ("formula", read_formula(self._tokens, at + 1, end)), end + 1

    def _command_at(self, at, hi, notes):
        """Does the work of _inline_at where a command stands."""
        _, name, line, column = self._tokens[at]
        pairs = groups_within(self._tokens, at + 1, hi, 1)
        if pairs is None:
            raise BadText(line, column, "group")
        first, last = pairs[0]
        if name == "strong":
            return ("strong", self.inlines(first + 1, last, notes)), last + 1
        if name == "note":
            if not notes:
                raise BadText(line, column, "note")
            return ("note", self._note_inside(at, first + 1, last)), last + 1
        return (name, self._named(at, first + 1, last)), last + 1

    def _note_inside(self, at, lo, hi):
        """Returns the inlines of the note whose command stands at an index."""
        inside = trimmed(self.inlines(lo, hi, False))
        if not has_solid(inside):
            raise BadText(self._tokens[at][2], self._tokens[at][3], "empty")
        return inside

    def _named(self, at, lo, hi):
        """Returns the word of the label, ref or mark whose command stands at an index."""
        _, name, line, column = self._tokens[at]
        if lo == hi or any([token[0] != "word" for token in self._tokens[lo:hi]]):
            raise BadText(line, column, "word")
        word = self._joined_words(lo, hi)
        if name == "label":
            self.labels.append((word, line, column))
        elif name == "ref":
            self.refs.append((word, line, column))
        return word


def trimmed(inlines):
    """Returns inlines without the gaps at their ends."""
    lo = 0
    hi = len(inlines)
    while lo < hi and inlines[lo][0] == "gap":
        lo += 1
    while lo < hi and inlines[hi - 1][0] == "gap":
        hi -= 1
    return inlines[lo:hi]


def has_solid(inlines):
    """Tells whether inlines contain a solid."""
    for inline in inlines:
        if inline[0] in SOLID:
            return True
        if inline[0] == "strong" and has_solid(inline[1]):
            return True
    return False
