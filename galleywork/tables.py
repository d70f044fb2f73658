"""Tables: rows of cells that are set as paragraphs."""

from galleywork.blocklines import height_of, record_of, set_lines
from galleywork.boxes import stacked
from galleywork.errors import TooWide
from galleywork.numbering import marks_of


def table_rows(works, block, number):
    """Returns the rows (height, box, numbers of the notes, index words) of a table, and the records of its cells."""
    widths = block[1]
    _check_widths(works, widths, number)
    rows = []
    records = []
    for cells in block[2]:
        boxes = []
        notes = []
        marks = []
        for width, inlines in zip(widths, cells):
            paragraph, lines = set_lines(works, "cell", width, inlines, number)
            records.append(record_of("cell", number, paragraph))
            boxes.append(stacked("cell", width, *paragraph.boxes))
            notes.extend([n for _, held, _ in lines for n in held])
            # Not by lines, since a cell without solids has none.
            marks.extend(marks_of(inlines))
        box = _row_box(works, widths, boxes)
        rows.append((height_of(box), box, tuple(notes), tuple(marks)))
    return (rows, records)


def _check_widths(works, widths, number):
    """Refuses columns that are wider than the page in all, or too narrow for the signs of their fonts."""
    sheet = works.sheet
    style = sheet.style_of("cell")
    if sum(widths) + sheet.column_gap * (len(widths) - 1) > sheet.measure:
        raise TooWide(number)
    fonts = [works.book.font_of(name) for name in (style.font, style.strong)]
    need = max([2 * font.widest + font.kern_most for font in fonts]) + style.indent
    if min(widths) < need:
        raise TooWide(number)


def _row_box(works, widths, boxes):
    """Returns the box of a row from the boxes of its cells."""
    sheet = works.sheet
    font = works.book.font_of(sheet.style_of("cell").font)
    parts = []
    x = 0
    for width, box in zip(widths, boxes):
        parts.append((x, 0, box))
        x += width + sheet.column_gap
    height = max([font.leading] + [height_of(box) for box in boxes])
    return ("unit", sheet.measure, 0, height, tuple(parts))
