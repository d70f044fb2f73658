"""The boxes of fences and grids."""

from galleywork.boxes import grow_box, hull


def fence_box(m, left, a, right):
    """Returns the box of a between brackets, each of which may be missing."""
    need = max(1, 2 * max(a[2] - m.axis, a[3] + m.axis))
    parts = []
    x = 0
    if left != "":
        bracket = _bracket_box(m, left, need)
        parts.append((0, m.axis, bracket))
        x = bracket[1]
    parts.append((x, 0, a))
    if right != "":
        parts.append((x + a[1], m.axis, _bracket_box(m, right, need)))
    return hull("fence", parts)


def grid_box(m, rows):
    """Returns the box of a grid of boxes."""
    widths = [max([row[k][1] for row in rows]) for k in range(len(rows[0]))]
    heights = [max([box[2] for box in row]) for row in rows]
    depths = [max([box[3] for box in row]) for row in rows]
    total = sum(heights) + sum(depths) + m.space * (len(rows) - 1)
    parts = []
    top = m.axis + (total + 1) // 2
    for row, h, d in zip(rows, heights, depths):
        x = 0
        for box, width in zip(row, widths):
            parts.append((x + (width - box[1]) // 2, top - h, box))
            x += width + m.space
        top -= h + d + m.space
    return hull("grid", parts)


def _bracket_box(m, char, need):
    """Returns the leaf of a bracket for a needed total."""
    total, width = m.bracket(char, need)
    return grow_box(char, width, (total + 1) // 2, total // 2)
