"""A works object that keeps what it has made."""

from galleywork.formwrite import write_formula
from galleywork.works import Works


class Kept(Works):
    """Makes what a Works makes, but each thing only once, until it is forgotten."""

    def __init__(self, sheet):
        super().__init__(sheet)
        self._things = {"word": {}, "formula": {}, "mark": {}, "paragraph": {}, "display": {}}
        # The pairs (sort, key) of all things, in the order in which they were kept.
        self._order = []

    def word(self, font, letters, kind):
        """Returns the word box of a string in the font of a name."""
        key = (font, letters, kind)
        if key not in self._things["word"]:
            self._keep("word", key, super().word(font, letters, kind))
        return self._things["word"][key]

    def formula(self, row):
        """Returns the box of a row at size 0."""
        key = write_formula(row)
        if key not in self._things["formula"]:
            self._keep("formula", key, super().formula(row))
        return self._things["formula"][key]

    def mark(self, n):
        """Returns the mark of a note number."""
        if n not in self._things["mark"]:
            self._keep("mark", n, super().mark(n))
        return self._things["mark"][n]

    def paragraph(self, style, measure, solids, joints, block):
        """Returns the paragraph of solids that are set with the style of a name in lines of a measure."""
        key = (style, measure, joints, tuple([_written_solid(solid) for solid in solids]))
        if key not in self._things["paragraph"]:
            self._keep("paragraph", key, super().paragraph(style, measure, solids, joints, block))
        return self._things["paragraph"][key]

    def display(self, row, block):
        """Returns the paragraph of a row that is set as a display."""
        key = write_formula(row)
        if key not in self._things["display"]:
            self._keep("display", key, super().display(row, block))
        return self._things["display"][key]

    def stand(self):
        """Returns the number of things that are kept."""
        return len(self._order)

    def back_to(self, stand):
        """Forgets everything that was kept since an earlier stand."""
        while len(self._order) > stand:
            sort, key = self._order.pop()
            del self._things[sort][key]

    def worked_since(self, stand):
        """Returns how many paragraphs, displays and formulas were kept since an earlier stand."""
        sorts = [sort for sort, _ in self._order[stand:]]
        return (sorts.count("paragraph"), sorts.count("display"), sorts.count("formula"))

    def _keep(self, sort, key, thing):
        """Keeps a new thing under its key."""
        self._things[sort][key] = thing
        self._order.append((sort, key))


def _written_solid(solid):
    """Returns a solid as it stands in a key, with the written form in place of a formula."""
    return ("formula", write_formula(solid[1])) if solid[0] == "formula" else solid
