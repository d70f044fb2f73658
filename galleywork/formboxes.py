"""The boxes of formulas, their missing signs, and the marks of notes."""

from galleywork.boxes import beside, hull, sign_box
from galleywork.formgrown import fence_box, grid_box
from galleywork.formkinds import kinds_of
from galleywork.formparts import over_box, root_box, row_box, script_box

SMALLEST = 2


def formula_box(book, tree, size):
    """Returns the box of a tree at a size at which it has no missing sign."""
    kind = tree[0]
    m = book.math_of(size)
    if kind == "sign":
        return sign_box(book.font_of(m.font), tree[1], tree[1])
    if kind == "row":
        return row_box(m, [formula_box(book, item, size) for item in tree[1]], kinds_of(tree[1]))
    if kind == "grid":
        return grid_box(m, [[formula_box(book, cell, size) for cell in row] for row in tree[1]])
    boxes = [None if part is None else formula_box(book, part, at) for part, at in _parts(tree, size)]
    if kind == "over":
        return over_box(m, boxes[0], boxes[1])
    if kind == "script":
        return script_box(m, boxes[0], boxes[1], boxes[2])
    if kind == "root":
        return root_box(m, boxes[0])
    return fence_box(m, tree[1], boxes[0], tree[2])


def missing_sign(book, tree, size):
    """Returns the first character of a tree that the font of its size lacks, or None."""
    if tree[0] == "sign":
        font = book.font_of(book.math_of(size).font)
        return None if tree[1] in font else tree[1]
    for part, at in _parts(tree, size):
        missing = None if part is None else missing_sign(book, part, at)
        if missing is not None:
            return missing
    return None


def note_mark(book, number):
    """Returns the mark of a note number."""
    font = book.font_of(book.math_of(1).font)
    digits = [sign_box(font, digit, digit) for digit in str(number)]
    return hull("mark", [(0, book.math_of(0).up, beside("row", *digits))])


def _parts(tree, size):
    """Returns the pairs (part, size) of a tree in the order of writing; a missing part is None."""
    kind = tree[0]
    smaller = min(size + 1, SMALLEST)
    if kind == "row":
        return [(item, size) for item in tree[1]]
    if kind == "grid":
        return [(cell, size) for row in tree[1] for cell in row]
    if kind == "over":
        return [(tree[1], smaller), (tree[2], smaller)]
    if kind == "script":
        return [(tree[1], size), (tree[2], smaller), (tree[3], smaller)]
    if kind == "root":
        return [(tree[1], size)]
    return [(tree[3], size)]
