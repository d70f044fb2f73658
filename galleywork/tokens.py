"""Tokens: the smallest parts of a text, and how they are written."""

from galleywork.chars import LETTERS, WORD_CHARS, is_letter
from galleywork.errors import BadText

SIZE_LIMIT = 6000

SINGLE = {"{": "open", "}": "shut", "$": "dollar", "~": "tie", "&": "amp", "^": "up", "_": "down"}
ESCAPED = {"\\-": "hyph", "\\\\": "cut"}
PARAMS = {"#1": "1", "#2": "2", "#3": "3", "#4": "4", "#5": "5", "#6": "6", "#7": "7", "#8": "8", "#9": "9"}
BLANKS = " \n"


def tokenize(text):
    """Returns the list of the tokens of a text."""
    tokens = []
    at = 0
    line = 1
    begin = 0
    while at < len(text):
        column = at - begin + 1
        kind, value, end = _token_at(text, at, line, column)
        tokens.append((kind, value, line, column))
        feeds = text.count("\n", at, end)
        if feeds > 0:
            line += feeds
            begin = text.rfind("\n", at, end) + 1
        at = end
    return tokens


def _token_at(text, at, line, column):
    """Returns the kind and the value of the token at an index, and the index behind it."""
    char = text[at]
    if char in SINGLE:
        return SINGLE[char], char, at + 1
    if char in BLANKS:
        end = _run_end(text, at, BLANKS)
        if text.count("\n", at, end) > 1:
            return "par", "\n\n", end
        return "blank", " ", end
    if char == "\\":
        return _escaped_at(text, at, line, column)
    if char == "#":
        pair = text[at:at + 2]
        if pair not in PARAMS:
            raise BadText(line, column, "parameter")
        return "param", PARAMS[pair], at + 2
    end = _run_end(text, at, WORD_CHARS)
    if end == at:
        raise BadText(line, column, "character")
    return "word", text[at:end], end


def _escaped_at(text, at, line, column):
    """Does the work of _token_at where a backslash stands."""
    end = _run_end(text, at + 1, LETTERS)
    if end > at + 1:
        return "name", text[at + 1:end], end
    pair = text[at:at + 2]
    if pair not in ESCAPED:
        raise BadText(line, column, "escape")
    return ESCAPED[pair], pair, at + 2


def _run_end(text, at, chars):
    """Returns the index behind the longest run of these characters from an index on."""
    while at < len(text) and text[at] in chars:
        at += 1
    return at


def written(tokens):
    """Returns the written form of a list of tokens."""
    parts = []
    behind_name = False
    for token in tokens:
        # Without the space the letters would become a part of the name.
        if behind_name and token[0] == "word" and is_letter(token[1][0]):
            parts.append(" ")
        parts.append(_written_token(token))
        behind_name = token[0] == "name"
    return "".join(parts)


def size_of(token):
    """Returns the length of the written form of a token."""
    return len(_written_token(token))


def _written_token(token):
    """Returns the written form of one token."""
    if token[0] == "name":
        return "\\" + token[1]
    if token[0] == "param":
        return "#" + token[1]
    return token[1]
