"""Groups: the parts of a token list between an open token and its shut token."""

from galleywork.errors import BadText

DEPTH_LIMIT = 12


def check_braces(tokens):
    """Returns True if the braces of a list of tokens match and do not nest too deep."""
    begun = []
    for token in tokens:
        if token[0] == "open":
            if len(begun) == DEPTH_LIMIT:
                raise BadText(token[2], token[3], "depth")
            begun.append(token)
        elif token[0] == "shut":
            if not begun:
                raise BadText(token[2], token[3], "shut")
            begun.pop()
    if begun:
        raise BadText(begun[0][2], begun[0][3], "open")
    return True


def group_end(tokens, at):
    """Returns the index of the shut token of the group whose open token has the index at."""
    depth = 1
    while depth > 0:
        at += 1
        if tokens[at][0] == "open":
            depth += 1
        elif tokens[at][0] == "shut":
            depth -= 1
    return at


def groups_behind(tokens, at, count):
    """Returns the pairs (open, shut) of the indexes of the groups from at on, or None if there are fewer."""
    return groups_within(tokens, at, len(tokens), count)


def groups_within(tokens, at, hi, count):
    """Does the same as groups_behind, but looks at no token from the index hi on."""
    pairs = []
    for _ in range(count):
        if at >= hi or tokens[at][0] != "open":
            return None
        end = group_end(tokens, at)
        pairs.append((at, end))
        at = end + 1
    return pairs


def split_cells(tokens, lo, hi):
    """Splits tokens[lo:hi] into rows of cells; returns rows of pairs (lo, hi), one for each cell."""
    rows = []
    row = []
    begin = lo
    at = lo
    while at < hi:
        kind = tokens[at][0]
        if kind == "open":
            at = group_end(tokens, at)
        elif kind == "amp" or kind == "cut":
            row.append((begin, at))
            begin = at + 1
        if kind == "cut":
            rows.append(row)
            row = []
        at += 1
    row.append((begin, hi))
    rows.append(row)
    return rows
