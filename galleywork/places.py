"""The places at which lines may end, and their kinds."""

from galleywork.chars import is_letter
from galleywork.content import pieces_glue, pieces_of

AT_GAP = 0
AT_HYPHEN = 1
IN_WIDE_CHUNK = 2
AT_CUT = 3
AT_END = 4


def word_points(book, solids, joints):
    """Returns the ascending list of the word points."""
    found = []
    start = 0
    for k in range(1, len(solids) + 1):
        if k < len(solids) and joints[k - 1][0] == "none" and _has_letter(solids[k - 1]) and _has_letter(solids[k]):
            continue
        if _has_letter(solids[start]):
            word = "".join([char for _, _, char in solids[start:k]])
            found.extend([start + point for point in book.points(word)])
        start = k
    return found


def chunks(joints, count):
    """Returns the list of the chunks, tuples (first position, last position)."""
    if count == 0:
        return []
    ends = [k for k in range(1, count) if joints[k - 1][0] == "gap" or joints[k - 1][0] == "cut"]
    return list(zip([0] + ends, ends + [count]))


def place_kinds(works, style, measure, solids, joints):
    """Returns the tuple of the kinds of all positions."""
    count = len(solids)
    points = {k: True for k in word_points(works.book, solids, joints)}
    kinds = [None] * (count + 1)
    for low, high in chunks(joints, count):
        glue = pieces_glue(works, pieces_of(solids, joints, low, high, False))
        otherwise = IN_WIDE_CHUNK if glue.natural > measure - style.indent else None
        for k in range(low + 1, high):
            kinds[k] = AT_HYPHEN if k in points or _may_part(solids, joints, k) else otherwise
        if high == count:
            kinds[high] = AT_END
        else:
            kinds[high] = AT_CUT if joints[high - 1][0] == "cut" else AT_GAP
    return tuple(kinds)


def _may_part(solids, joints, k):
    """Tells whether a word may be broken at a position by a hyph or behind a hyphen of its own."""
    if joints[k - 1][0] == "hyph":
        return True
    left = solids[k - 1]
    return joints[k - 1][0] == "none" and left[0] == "letter" and left[2] == "-" and _has_letter(solids[k])


def _has_letter(solid):
    """Tells whether a solid is a letter from a to z or from A to Z."""
    return solid[0] == "letter" and is_letter(solid[2])
