"""Macros: their definitions, and the writing out of their calls."""

from galleywork.chars import is_digit
from galleywork.errors import BadText, TooLong
from galleywork.groups import groups_behind
from galleywork.tokens import SIZE_LIMIT, size_of

RESERVED = (
    "let", "head", "item", "quote", "display", "table", "float", "newpage", "strong",
    "note", "label", "ref", "mark", "over", "root", "fence", "grid",
)


class Row:
    """Tokens that are written out one after another, and their size."""

    def __init__(self, what):
        self.what = what
        self.tokens = []
        self.size = 0

    def take(self, tokens, size):
        """Adds tokens whose sizes add up to this size."""
        if self.size + size > SIZE_LIMIT:
            raise TooLong(self.what)
        self.tokens.extend(tokens)
        self.size += size


class Macros:
    """A table of definitions."""

    def __init__(self):
        self._numbers = {}
        self._arities = []
        self._bodies = []
        self._pieces = []

    def defined(self, name):
        """Returns the number of the definition of a name that is in force, or None."""
        return self._numbers.get(name)

    def arity(self, number):
        """Returns the arity of the definition with a number."""
        return self._arities[number]

    def body(self, number):
        """Returns the stored body of the definition with a number."""
        return list(self._bodies[number])

    def define(self, name, arity, tokens):
        """Adds a definition, and returns its number."""
        row = Row("body")
        self._write(row, tokens, 0, len(tokens), arity, 1)
        number = len(self._bodies)
        self._arities.append(arity)
        self._bodies.append(row.tokens)
        self._pieces.append(_pieces_of(row.tokens))
        # Only now, since in its own body the name means the earlier definition.
        self._numbers[name] = number
        return number

    def write_out(self, tokens):
        """Returns the tokens of a text with its calls replaced and its definitions removed."""
        row = Row("written")
        self._write(row, tokens, 0, len(tokens), 0, 0)
        return row.tokens

    def _write(self, row, tokens, lo, hi, arity, depth):
        """Writes out tokens[lo:hi], which stand inside as many groups as depth tells, to a row."""
        at = lo
        while at < hi:
            kind, value, line, column = tokens[at]
            if kind == "name" and value == "let":
                if depth > 0:
                    raise BadText(line, column, "place")
                at = self._definition_at(tokens, at)
            elif kind == "name" and value not in RESERVED:
                at = self._call_at(row, tokens, at, arity)
            else:
                if kind == "param" and int(value) > arity:
                    raise BadText(line, column, "parameter")
                if kind == "open":
                    depth += 1
                elif kind == "shut":
                    depth -= 1
                row.take([tokens[at]], size_of(tokens[at]))
                at += 1

    def _definition_at(self, tokens, at):
        """Adds the definition that a let begins, and returns the index behind it."""
        _, _, line, column = tokens[at]
        at = _behind(tokens, at)
        if at == len(tokens) or tokens[at][0] != "name":
            raise BadText(line, column, "name")
        name = tokens[at][1]
        if name in RESERVED:
            raise BadText(tokens[at][2], tokens[at][3], "reserved")
        at = _behind(tokens, at)
        if at == len(tokens) or not _is_arity(tokens[at]):
            raise BadText(line, column, "digit")
        arity = int(tokens[at][1])
        pairs = groups_behind(tokens, _behind(tokens, at), 1)
        if pairs is None:
            raise BadText(line, column, "body")
        first, last = pairs[0]
        self.define(name, arity, tokens[first + 1:last])
        return last + 1

    def _call_at(self, row, tokens, at, arity):
        """Adds the outcome of a call to a row, and returns the index behind the call."""
        _, name, line, column = tokens[at]
        number = self._numbers.get(name)
        if number is None:
            raise BadText(line, column, "undefined")
        pairs = groups_behind(tokens, at + 1, self._arities[number])
        if pairs is None:
            raise BadText(line, column, "groups")
        end = at + 1
        parts = []
        for first, last in pairs:
            part = Row("call")
            self._write(part, tokens, first + 1, last, arity, 1)
            parts.append(part)
            end = last + 1
        outcome = _outcome(self._pieces[number], parts)
        row.take(outcome.tokens, outcome.size)
        return end


def expand(tokens):
    """Returns the tokens of a text, written out with a table of its own."""
    return Macros().write_out(tokens)


def _behind(tokens, at):
    """Returns the index of what follows a part of a definition, behind a blank if there is one."""
    if at + 1 < len(tokens) and tokens[at + 1][0] == "blank":
        return at + 2
    return at + 1


def _is_arity(token):
    """Tells whether a token is a word of a single digit."""
    return token[0] == "word" and len(token[1]) == 1 and is_digit(token[1])


def _pieces_of(body):
    """Parts a body into pairs (param, row): a param and no tokens, or param 0 and the tokens between params."""
    pieces = []
    run = Row("body")
    for token in body:
        if token[0] == "param":
            pieces.append((0, run))
            pieces.append((int(token[1]), Row("body")))
            run = Row("body")
        else:
            run.take([token], size_of(token))
    pieces.append((0, run))
    return pieces


def _outcome(pieces, parts):
    """Returns the row of the pieces of a body, with these rows in the places of the params."""
    outcome = Row("call")
    for param, run in pieces:
        piece = parts[param - 1] if param > 0 else run
        outcome.take(piece.tokens, piece.size)
    return outcome
