"""Floats: blocks of a given height with captions."""

from galleywork.blocklines import page_wide, record_of, set_lines
from galleywork.boxes import bar_box, stacked
from galleywork.numbering import marks_of


def float_row(works, block, number):
    """Returns the box of a float, its index words, and the record of its caption."""
    sheet = works.sheet
    style = sheet.style_of("caption")
    height, inlines = block[2:]
    paragraph, lines = set_lines(works, "caption", style.measure, inlines, number)
    captions = [page_wide("caption", sheet, style, line) for line, _, _ in lines]
    box = stacked("float", sheet.measure, bar_box(sheet.measure, height, 0), *captions)
    return (box, tuple(marks_of(inlines)), record_of("caption", number, paragraph))
