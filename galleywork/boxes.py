"""Boxes: leaves, hulls of parts, and what a box shows."""

LEAF_KINDS = ("sign", "bar", "grow")


def sign_box(font, sign, letters):
    """Returns the leaf of a sign of a font that stands for these letters."""
    w, h, d = font.sizes(sign)
    return ("sign", w, h, d, (font.name, sign, letters))


def bar_box(w, h, d):
    """Returns the leaf of a filled rectangle."""
    return ("bar", w, h, d, ())


def grow_box(name, w, h, d):
    """Returns the leaf of a bracket or a root sign of this size."""
    return ("grow", w, h, d, (name,))


def is_leaf(box):
    """Tells whether a box is a leaf."""
    return box[0] in LEAF_KINDS


def hull(kind, parts):
    """Returns the box of this kind that just holds its parts and its own point."""
    w = 0
    h = 0
    d = 0
    for dx, dy, box in parts:
        w = max(w, dx + box[1])
        h = max(h, dy + box[2])
        d = max(d, box[3] - dy)
    return (kind, w, h, d, tuple(parts))


def beside(kind, *boxes, gap=0):
    """Returns the hull of boxes side by side on one baseline."""
    parts = []
    x = 0
    for box in boxes:
        parts.append((x, 0, box))
        x += box[1] + gap
    return hull(kind, parts)


def stacked(kind, width, *boxes):
    """Returns the box of boxes one below another, with the baseline at their top."""
    parts = []
    total = 0
    for box in boxes:
        parts.append((0, -total - box[2], box))
        total += box[2] + box[3]
    return (kind, width, 0, total, tuple(parts))


def leaves(box, x, y):
    """Yields the tuples (x, y, leaf) of what the box at (x, y) shows, in order."""
    waiting = [(x, y, box)]
    while waiting:
        left, base, shown = waiting.pop()
        if is_leaf(shown):
            yield (left, base, shown)
        else:
            # The last one that is put there is taken first.
            for dx, dy, part in reversed(shown[4]):
                waiting.append((left + dx, base + dy, part))


def rect(box, x, y):
    """Returns the edges of the box at (x, y): left, lower, right and upper."""
    w, h, d = box[1:4]
    return (x, y - d, x + w, y + h)
