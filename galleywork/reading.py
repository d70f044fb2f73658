"""Reading a text to its blocks."""

from galleywork.errors import BadText, TooLong
from galleywork.formread import read_formula
from galleywork.groups import check_braces, group_end, groups_behind, split_cells
from galleywork.inlines import Reader, has_solid, trimmed
from galleywork.macros import expand
from galleywork.tokens import SIZE_LIMIT, tokenize

COMMANDS = {"head": 1, "item": 1, "quote": 1, "display": 1, "table": 2, "float": 2, "newpage": 0}
NUMBER_LIMIT = 10000
COLUMN_LIMIT = 12


class BlockReader:
    """Reads the blocks of one list of tokens."""

    def __init__(self, tokens):
        self.reader = Reader(tokens)
        self._tokens = tokens

    def all_blocks(self):
        """Returns the list of all blocks of the tokens."""
        blocks = []
        at = 0
        while at < len(self._tokens):
            kind = self._tokens[at][0]
            if kind == "blank" or kind == "par":
                at += 1
            else:
                block, at = self._block_at(at)
                blocks.append(block)
        return blocks

    def _block_at(self, at):
        """Returns the block that begins at an index, and the index behind it."""
        if not _is_command(self._tokens[at]):
            end = self._paragraph_end(at)
            return self._solid_block("par", at, at, end), end
        _, name, line, column = self._tokens[at]
        pairs = groups_behind(self._tokens, at + 1, COMMANDS[name])
        if pairs is None:
            raise BadText(line, column, "group")
        if name == "newpage":
            return ("newpage",), at + 1
        first, last = pairs[0]
        end = pairs[-1][1] + 1
        if name == "display":
            return self._display(at, first + 1, last), end
        if name == "table":
            return self._table(at, pairs), end
        if name == "float":
            return self._float(at, pairs), end
        return self._solid_block(name, at, first + 1, last), end

    def _paragraph_end(self, at):
        """Returns the index behind the paragraph that begins at an index."""
        while at < len(self._tokens):
            token = self._tokens[at]
            if token[0] == "par" or _is_command(token):
                return at
            if token[0] == "open":
                at = group_end(self._tokens, at)
            at += 1
        return at

    def _refuse(self, at, what):
        """Raises the error of a refusal at the token with this index."""
        raise BadText(self._tokens[at][2], self._tokens[at][3], what)

    def _solid_block(self, kind, at, lo, hi):
        """Returns the block of this kind whose inside is tokens[lo:hi] and whose first token has the index at."""
        inside = trimmed(self.reader.inlines(lo, hi, True))
        if not has_solid(inside):
            self._refuse(at, "empty")
        return (kind, inside)

    def _display(self, at, lo, hi):
        """Returns the display at an index whose inside is tokens[lo:hi]."""
        row = read_formula(self._tokens, lo, hi)
        if not row[1]:
            self._refuse(at, "empty")
        return ("display", row)

    def _table(self, at, pairs):
        """Returns the table at an index whose groups have these indexes."""
        first, last = pairs[0]
        widths = _numbers_of(self._tokens[first + 1:last])
        first, last = pairs[1]
        rows = split_cells(self._tokens, first + 1, last)
        if not 1 <= len(widths) <= COLUMN_LIMIT or any([len(row) != len(widths) for row in rows]):
            self._refuse(at, "table")
        return ("table", widths, tuple([tuple([self._cell(lo, hi) for lo, hi in row]) for row in rows]))

    def _cell(self, lo, hi):
        """Returns the inlines of the cell whose inside is tokens[lo:hi]."""
        return trimmed(self.reader.inlines(lo, hi, True))

    def _float(self, at, pairs):
        """Returns the float at an index whose groups have these indexes."""
        first, last = pairs[0]
        heights = _numbers_of(self._tokens[first + 1:last])
        if len(heights) != 1:
            self._refuse(at, "number")
        first, last = pairs[1]
        return ("float", heights[0], trimmed(self.reader.inlines(first + 1, last, False)))


def _is_command(token):
    """Tells whether a token is the command of a block."""
    return token[0] == "name" and token[1] in COMMANDS


def _numbers_of(tokens):
    """Returns the tuple of the numbers with blanks between, or an empty one if there is anything else."""
    if any([token[0] != "word" and token[0] != "blank" for token in tokens]):
        return ()
    words = "".join([token[1] for token in tokens]).split()
    if all([_is_number(word) for word in words]):
        return tuple([int(word) for word in words])
    return ()


def _is_number(word):
    """Tells whether a word is a number from 1 to 10000 without leading zeros."""
    # The length comes first, since Python refuses to read very long numbers.
    return len(word) <= 5 and word.isdigit() and word[0] != "0" and int(word) <= NUMBER_LIMIT


def read_blocks(tokens):
    """Returns the list of the blocks of tokens that are written out."""
    return BlockReader(tokens).all_blocks()


def read_text(text):
    """Returns the list of the blocks of a text."""
    if len(text) > SIZE_LIMIT:
        raise TooLong("text")
    tokens = tokenize(text)
    check_braces(tokens)
    tokens = expand(tokens)
    check_braces(tokens)
    blocks = BlockReader(tokens)
    found = blocks.all_blocks()
    _check_names(blocks.reader.labels, blocks.reader.refs)
    return found


def _check_names(labels, refs):
    """Refuses a label that an earlier one has, and then a ref without a label."""
    known = {}
    for name, line, column in labels:
        if name in known:
            raise BadText(line, column, "label")
        known[name] = True
    for name, line, column in refs:
        if name not in known:
            raise BadText(line, column, "reference")
