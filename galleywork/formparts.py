"""The boxes of rows, fractions, scripts and roots."""

from galleywork.boxes import bar_box, grow_box, hull
from galleywork.formkinds import gap_between


def row_box(m, boxes, kinds):
    """Returns the row box of boxes that count as these kinds."""
    parts = []
    x = 0
    for k, box in enumerate(boxes):
        if k > 0:
            x += gap_between(m, kinds[k - 1], kinds[k])
        parts.append((x, 0, box))
        x += box[1]
    return hull("row", parts)


def over_box(m, a, b):
    """Returns the box of a fraction, a above b."""
    w = max(a[1], b[1]) + 2 * m.space
    return hull("over", [
        ((w - a[1]) // 2, m.axis + m.bar + m.space + a[3], a),
        (0, m.axis, bar_box(w, m.bar, 0)),
        ((w - b[1]) // 2, m.axis - m.space - b[2], b),
    ])


def script_box(m, base, up, down):
    """Returns the box of a base with an upper part, a lower part, or both."""
    x = base[1] + m.space
    low = min(-m.down, -base[3])
    parts = [(0, 0, base)]
    if up is not None:
        high = max(m.up, base[2] - up[2] // 2)
        if down is not None:
            room = high - up[3] - (low + down[2])
            high += max(0, m.space - room)
        parts.append((x, high, up))
    if down is not None:
        parts.append((x, low, down))
    return hull("script", parts)


def root_box(m, a):
    """Returns the box of a root."""
    w, h, d = a[1:4]
    return hull("root", [
        (0, 0, grow_box("root", m.rootwide, h + m.space + m.bar, d)),
        (m.rootwide, 0, a),
        (m.rootwide, h + m.space, bar_box(w, m.bar, 0)),
    ])
