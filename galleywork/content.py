"""The pieces of a line: words, formulas, note marks and gaps."""

from galleywork.glue import Glue


def pieces_of(solids, joints, i, j, hyphen):
    """Returns the list of the pieces of the line from i to j."""
    pieces = []
    start = i
    for k in range(i + 1, j + 1):
        if k < j and same_word(solids, joints, k):
            continue
        pieces.append(_piece(solids[start:k]))
        if k < j and is_gap(joints[k - 1]):
            pieces.append(("gap", joints[k - 1][1]))
        start = k
    if hyphen:
        font, letters = pieces[-1][1:3]
        pieces[-1] = ("word", font, letters + "-", True)
    return pieces


def pieces_glue(works, pieces):
    """Returns the glue of a list of pieces."""
    total = Glue.zero()
    for piece in pieces:
        if piece[0] == "gap":
            total = total + works.book.font_of(piece[1]).gap
        else:
            total = total + Glue(box_of(works, piece)[1], 0, 0)
    return total


def box_of(works, piece):
    """Returns the box of a piece that is no gap."""
    kind = piece[0]
    if kind == "word":
        return works.word(piece[1], piece[2], "parted" if piece[3] else "word")
    if kind == "formula":
        return works.formula(piece[1])
    return works.mark(piece[1])


def is_gap(joint):
    """Tells whether a joint gives a gap."""
    return joint[0] == "gap" or joint[0] == "tie"


def same_word(solids, joints, k):
    """Tells whether the solids on both sides of a position are letters of one word."""
    left = solids[k - 1]
    right = solids[k]
    if left[0] != "letter" or right[0] != "letter" or left[1] != right[1]:
        return False
    return joints[k - 1][0] == "none" or joints[k - 1][0] == "hyph"


def _piece(solids):
    """Returns the piece of the letters of a word, or of a single other solid."""
    if solids[0][0] != "letter":
        return solids[0]
    return ("word", solids[0][1], "".join([char for _, _, char in solids]), False)
