"""The kinds of the items of formulas, and the gaps between items."""

from galleywork.chars import sign_kind

BEFORE_A_SIGN = ("oper", "rel", "open", "comma")


def item_kind(tree):
    """Returns the kind of a tree."""
    while tree[0] == "script":
        tree = tree[1]
    return sign_kind(tree[1]) if tree[0] == "sign" else "plain"


def kinds_of(items):
    """Returns the list of what the items of a row count as."""
    kinds = []
    for k, item in enumerate(items):
        kind = item_kind(item)
        at_an_end = k == 0 or k == len(items) - 1
        if kind == "oper" and (at_an_end or kinds[-1] in BEFORE_A_SIGN):
            kind = "plain"
        kinds.append(kind)
    return kinds


def gap_between(math, left, right):
    """Returns the gap between neighbours that count as these kinds."""
    if left == "rel" and right == "rel":
        return 0
    if left == "rel" or right == "rel":
        return math.wide
    if left == "oper" or right == "oper" or left == "comma":
        return math.thin
    return 0
