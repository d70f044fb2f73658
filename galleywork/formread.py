"""Formulas: reading tokens to a tree."""

from galleywork.errors import BadText
from galleywork.groups import group_end, groups_behind, split_cells

COMMANDS = {"over": 2, "root": 1, "fence": 2, "grid": 1}
BRACKETS = {"(": "(", ")": ")", "[": "[", "]": "]", ".": ""}


def read_formula(tokens, lo, hi):
    """Returns the row of tokens[lo:hi]."""
    chars = _single_chars(tokens[lo:hi])
    return _row(chars, 0, len(chars))


def _single_chars(tokens):
    """Returns the tokens with each word parted into words of one character."""
    parted = []
    for token in tokens:
        if token[0] == "word":
            parted.extend([("word", char, token[2], token[3]) for char in token[1]])
        else:
            parted.append(token)
    return parted


def _row(tokens, lo, hi):
    """Returns the row of tokens[lo:hi], whose words have one character each."""
    items = []
    at = lo
    while at < hi:
        kind, _, line, column = tokens[at]
        if kind == "blank":
            at += 1
        elif kind == "up" or kind == "down":
            if not items:
                raise BadText(line, column, "base")
            items[-1], at = _scripted(items[-1], tokens, at, hi)
        elif _begins_item(tokens[at]):
            item, at = _item_at(tokens, at)
            items.append(item)
        else:
            raise BadText(line, column, "place")
    return ("row", tuple(items))


def _scripted(item, tokens, at, hi):
    """Returns an item with the part that the token at an index adds to it, and the index behind."""
    kind, _, line, column = tokens[at]
    base, upper, lower = item, None, None
    if item[0] == "script":
        _, base, upper, lower = item
    at += 1
    while at < hi and tokens[at][0] == "blank":
        at += 1
    given = upper if kind == "up" else lower
    if given is not None or at == hi or not _begins_item(tokens[at]):
        raise BadText(line, column, "script")
    part, end = _item_at(tokens, at)
    if kind == "up":
        return ("script", base, part, lower), end
    return ("script", base, upper, part), end


def _begins_item(token):
    """Tells whether a token is a character, the beginning of a group or a command."""
    if token[0] == "name":
        return token[1] in COMMANDS
    return token[0] == "word" or token[0] == "open"


def _item_at(tokens, at):
    """Returns the item that begins at an index, without scripts, and the index behind it."""
    kind, value, line, column = tokens[at]
    if kind == "word":
        return ("sign", value), at + 1
    if kind == "open":
        end = group_end(tokens, at)
        return _row(tokens, at + 1, end), end + 1
    pairs = groups_behind(tokens, at + 1, COMMANDS[value])
    if pairs is None:
        raise BadText(line, column, "group")
    end = pairs[-1][1] + 1
    if value == "fence":
        return _fence(tokens, at, pairs), end
    if value == "grid":
        return _grid(tokens, at, pairs), end
    parts = [_row(tokens, first + 1, last) for first, last in pairs]
    return (value, *parts), end


def _fence(tokens, at, pairs):
    """Returns the tree of the fence at an index, whose groups have these indexes."""
    first, last = pairs[0]
    sides = [token[1] for token in tokens[first + 1:last] if token[0] == "word" and token[1] in BRACKETS]
    if len(sides) != 2 or last - first - 1 != 2:
        raise BadText(tokens[at][2], tokens[at][3], "fence")
    first, last = pairs[1]
    return ("fence", BRACKETS[sides[0]], BRACKETS[sides[1]], _row(tokens, first + 1, last))


def _grid(tokens, at, pairs):
    """Returns the tree of the grid at an index, whose group has these indexes."""
    first, last = pairs[0]
    rows = split_cells(tokens, first + 1, last)
    if any([len(row) != len(rows[0]) for row in rows]):
        raise BadText(tokens[at][2], tokens[at][3], "grid")
    return ("grid", tuple([tuple([_row(tokens, lo, hi) for lo, hi in row]) for row in rows]))
