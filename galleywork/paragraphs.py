"""Setting paragraphs: from solids to the boxes of lines."""

from galleywork.content import box_of
from galleywork.errors import NoSign, TooWide
from galleywork.evened import line_box
from galleywork.formboxes import missing_sign
from galleywork.quicklines import QuickLineTask
from galleywork.strip import Strip
from galleywork.ways import solve


class Paragraph:
    """A paragraph or a display that is set."""

    def __init__(self, way, paper, ends, boxes):
        self.way = way
        self.paper = paper
        self.ends = ends
        self.boxes = boxes


def set_paragraph(works, style, measure, solids, joints, block):
    """Returns the paragraph of solids that are set in lines of a measure."""
    _check_signs(works.book, solids, block)
    _check_widths(works, measure - style.indent, solids, block)
    strip = Strip(works, style, measure, solids, joints)
    way, paper = solve(QuickLineTask(strip))
    ends = ends_of(way)
    boxes = tuple([line_box(strip, i, j) for i, j in lines_of(ends)])
    return Paragraph(way, paper, ends, boxes)


def ends_of(way):
    """Returns the tuple of the ends of the lines of a way, whose states begin with positions."""
    return tuple([state[0] for state in way[1:]])


def lines_of(ends):
    """Returns the list of the pairs (i, j) of the lines that end at these positions."""
    return list(zip((0,) + ends, ends))


def _check_signs(book, solids, block):
    """Refuses the first solid that cannot be drawn."""
    for solid in solids:
        missing = None
        if solid[0] == "letter" and solid[2] not in book.font_of(solid[1]):
            missing = solid[2]
        if solid[0] == "formula":
            missing = missing_sign(book, solid[1], 0)
        if missing is not None:
            raise NoSign(missing, block)


def _check_widths(works, room, solids, block):
    """Refuses formulas and note marks that are wider than a room."""
    for solid in solids:
        if solid[0] != "letter" and box_of(works, solid)[1] > room:
            raise TooWide(block)
