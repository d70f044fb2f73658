"""Notes: paragraphs with the mark of the note ahead of them."""

from galleywork.blocklines import page_wide, record_of, set_lines
from galleywork.solids import note_inlines


def note_rows(works, number, inlines, block):
    """Returns the rows (opens, box, index words) of a note, one for each line, and its record."""
    sheet = works.sheet
    style = sheet.style_of("note")
    paragraph, lines = set_lines(works, "note", style.measure, note_inlines(number, inlines), block)
    rows = []
    for k, (line, _, marks) in enumerate(lines):
        rows.append((k == 0, page_wide("noteline", sheet, style, line), marks))
    return (rows, record_of("note", block, paragraph))
