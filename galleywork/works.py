"""Works objects: what is made for a sheet and its book."""

from galleywork.displays import set_display
from galleywork.formboxes import formula_box, note_mark
from galleywork.paragraphs import set_paragraph
from galleywork.shaping import word_box


class Works:
    """Makes the boxes of words, formulas and note marks, paragraphs and displays, anew at each call."""

    def __init__(self, sheet):
        self.sheet = sheet
        self.book = sheet.book

    def word(self, font, letters, kind):
        """Returns the word box of a string in the font of a name."""
        return word_box(self.book.font_of(font), letters, kind)

    def formula(self, row):
        """Returns the box of a row at size 0."""
        return formula_box(self.book, row, 0)

    def mark(self, n):
        """Returns the mark of a note number."""
        return note_mark(self.book, n)

    def paragraph(self, style, measure, solids, joints, block):
        """Returns the paragraph of solids that are set with the style of a name in lines of a measure."""
        return set_paragraph(self, self.sheet.style_of(style), measure, solids, joints, block)

    def display(self, row, block):
        """Returns the paragraph of a row that is set as a display."""
        return set_display(self, self.sheet.style_of("display"), row, block)
