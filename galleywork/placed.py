"""Placed pages: the boxes of pages."""

from galleywork.boxes import bar_box
from galleywork.evened import even_gaps


def page_box(sheet, matter, a, b, loose):
    """Returns the box of the page from state a to state b."""
    units = matter.units[a[0]:b[0]]
    floats = matter.floats[a[1]:b[1]]
    lines = matter.lines[a[2]:b[2]]
    gaps = [unit.gap for unit in units[1:]]
    heights = [unit.height for unit in units] + [one.height + sheet.float_gap for one in floats]
    natural = sum(heights) + sum([gap.natural for gap in gaps]) + _foot_height(sheet, lines)
    # No gap stands ahead of the first unit.
    widths = [0] + even_gaps(gaps, sheet.height - natural, not loose)
    parts = []
    y = 0
    for one in floats:
        parts.append((0, -y, one.box))
        y += one.height + sheet.float_gap
    for width, unit in zip(widths, units):
        y += width
        parts.append((0, -(y + unit.box[2]), unit.box))
        y += unit.height
    parts.extend(_foot(sheet, lines))
    return ("page", sheet.measure, 0, sheet.height, tuple(parts))


def page_boxes(sheet, matter, task, way):
    """Returns the list of the pages of a way."""
    return [page_box(sheet, matter, a, b, task.loose(b)) for a, b in zip(way, way[1:])]


def _foot_height(sheet, lines):
    """Returns the height of the rule and the note lines of a page."""
    return sheet.rule + sum([line.height for line in lines]) if lines else 0


def _foot(sheet, lines):
    """Returns the list of the parts of the rule and the note lines of a page."""
    if not lines:
        return []
    y = sheet.height - _foot_height(sheet, lines)
    parts = [(0, -y, bar_box(sheet.measure, 0, sheet.rule))]
    y += sheet.rule
    for line in lines:
        parts.append((0, -(y + line.box[2]), line.box))
        y += line.height
    return parts
