"""The lines of blocks, with their notes and index words, and the units that they make."""

from galleywork.paragraphs import lines_of
from galleywork.solids import solids_of
from galleywork.units import Unit

SPLIT_COST = 150


def set_lines(works, name, measure, inlines, block):
    """Returns the paragraph of inlines that are set with the style of a name, and the list of its lines.

    A line is a tuple (line box, numbers of its notes, index words).
    """
    solids, joints, marks = solids_of(works.sheet.style_of(name), inlines)
    paragraph = works.paragraph(name, measure, solids, joints, block)
    lines = []
    for (i, j), box in zip(lines_of(paragraph.ends), paragraph.boxes):
        notes = tuple([solid[1] for solid in solids[i:j] if solid[0] == "note"])
        words = tuple([word for k, word in marks if i <= k < j])
        lines.append((box, notes, words))
    return (paragraph, lines)


def record_of(name, block, paragraph):
    """Returns the record of a paragraph that is set with the style of a name."""
    return (name, block, paragraph.way, paragraph.paper)


def page_wide(kind, sheet, style, line):
    """Returns the box of this kind that is as wide as the page and holds the box of a line."""
    return (kind, sheet.measure, line[2], line[3], ((style.left, 0, line),))


def height_of(box):
    """Returns the whole height of a box."""
    return box[2] + box[3]


def unit_of(style, k, cost, row, block):
    """Returns the unit number k, from 0 on, of a block from a row (box, numbers of its notes, index words)."""
    box, notes, marks = row
    gap = style.ahead if k == 0 else style.between
    return Unit(height_of(box), gap, cost, box, notes, marks, block)


def split_cost(k, count):
    """Returns the cost of a page that begins with line number k, from 0 on, of a block of count lines."""
    return SPLIT_COST if k == 1 or 0 < k == count - 1 else 0
