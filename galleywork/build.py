"""From blocks to units, floats and note lines."""

from galleywork.blocklines import height_of, page_wide, record_of, set_lines, split_cost, unit_of
from galleywork.errors import TooTall
from galleywork.floats import float_row
from galleywork.notes import note_rows
from galleywork.numbering import notes_of
from galleywork.solids import item_inlines
from galleywork.tables import table_rows
from galleywork.units import MUST, NEED, FloatUnit, Matter, NoteLine

INNER_COSTS = {"display": 50, "table": 30}


def build_matter(works, resolved):
    """Returns the matter of a list of resolved blocks."""
    builder = Builder(works)
    for k, block in enumerate(resolved):
        builder.put_block(block, k + 1)
    return builder.finished()


class Builder:
    """Makes the matter of a text, one block after another."""

    def __init__(self, works):
        self._works = works
        self._matter = Matter()
        self._float_rows = []
        self._note_rows = []
        self._new_page = False
        self._behind_head = False

    def put_block(self, block, number):
        """Adds what a block makes."""
        kind = block[0]
        heights = []
        if kind == "newpage":
            self._new_page = True
        elif kind == "float":
            heights.append(self._put_float(block, number))
        else:
            if kind == "head":
                self._matter.heads.append((block[1], len(self._matter.units), number))
            heights.extend(self._put_units(block, number))
        heights.extend(self._put_notes(block, number))
        if any([height > self._works.sheet.height for height in heights]):
            raise TooTall(number)

    def finished(self):
        """Returns the matter, with the floats and note lines that were left for the end."""
        matter = self._matter
        # How many units stand behind is known only now.
        total = len(matter.units)
        for ahead, box, marks, block, number in self._float_rows:
            matter.floats.append(FloatUnit(height_of(box), total - ahead, box, marks, block, number))
        for ahead, opens, box, marks, block, number in self._note_rows:
            matter.lines.append(NoteLine(height_of(box), opens, total - ahead, box, marks, block, number))
        return matter

    def _put_units(self, block, number):
        """Adds the units of a block, and returns the list of their heights."""
        kind = block[0]
        rows = self._unit_rows(block, number)
        style = self._works.sheet.style_of("cell" if kind == "table" else kind)
        for k, row in enumerate(rows):
            unit = unit_of(style, k, self._unit_cost(kind, k, len(rows)), row, number)
            self._matter.units.append(unit)
            self._new_page = False
            self._behind_head = kind == "head"
        return [height_of(row[0]) for row in rows]

    def _unit_cost(self, kind, k, count):
        """Returns the cost of a page that begins with unit number k, from 0 on, of a block of count units."""
        if self._new_page:
            return MUST
        if self._behind_head:
            return NEED
        if kind in INNER_COSTS:
            return INNER_COSTS[kind] if k > 0 else 0
        return split_cost(k, count)

    def _unit_rows(self, block, number):
        """Sets a block, and returns the list of its rows (box, numbers of its notes, index words)."""
        kind = block[0]
        works = self._works
        if kind == "table":
            rows, records = table_rows(works, block, number)
            self._matter.records.extend(records)
            return [(box, notes, marks) for _, box, notes, marks in rows]
        style = works.sheet.style_of(kind)
        if kind == "display":
            paragraph = works.display(block[1], number)
            lines = [(line, (), ()) for line in paragraph.boxes]
        else:
            inlines = item_inlines(block[1], block[2]) if kind == "item" else block[-1]
            paragraph, lines = set_lines(works, kind, style.measure, inlines, number)
        self._matter.records.append(record_of(kind, number, paragraph))
        return [(page_wide("unit", works.sheet, style, line), notes, marks) for line, notes, marks in lines]

    def _put_float(self, block, number):
        """Adds a float, and returns the height that it takes on a page."""
        box, marks, record = float_row(self._works, block, number)
        self._matter.records.append(record)
        self._float_rows.append((len(self._matter.units), box, marks, number, block[1]))
        return height_of(box) + self._works.sheet.float_gap

    def _put_notes(self, block, number):
        """Adds the lines of the notes of a block, and returns the list of the heights that they take on a page."""
        heights = []
        held_by = self._holders(number)
        for n, inlines in notes_of(block):
            rows, record = note_rows(self._works, n, inlines, number)
            self._matter.records.append(record)
            for opens, box, marks in rows:
                self._note_rows.append((held_by[n] + 1, opens, box, marks, number, n))
                heights.append(height_of(box) + self._works.sheet.rule)
        return heights

    def _holders(self, number):
        """Returns the dict from the notes of the last block, which has this number, to the indexes of their units."""
        units = self._matter.units
        found = {}
        k = len(units) - 1
        while k >= 0 and units[k].block == number:
            for n in units[k].notes:
                found[n] = k
            k -= 1
        return found
