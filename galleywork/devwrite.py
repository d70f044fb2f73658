"""The device file of pages, and their ink."""

from galleywork.boxes import leaves

WORDS = ("word", "parted")


def device_text(pages):
    """Returns the device file of pages."""
    lines = []
    for k, page in enumerate(pages):
        lines.append("page " + str(k + 1))
        lines.extend(_box_lines(page))
    return "\n".join(lines)


def page_ink(pages):
    """Returns the list of what is drawn for pages."""
    ink = []
    for k, page in enumerate(pages):
        for x, y, leaf in leaves(page, 0, 0):
            ink.append(_ink_of(leaf, k + 1, x, -y))
    return ink


def _box_lines(box):
    """Returns the list of the lines of a box; no font is in force ahead of them."""
    kind, w, h, d, inside = box
    if kind == "sign":
        return ["font " + inside[0], "put " + inside[1]]
    if kind == "bar":
        return ["bar " + _numbers(w, h, d)]
    if kind == "grow":
        return ["grow " + inside[0] + " " + _numbers(w, h, d)]
    if kind in WORDS:
        return _word_lines(inside)
    lines = []
    for dx, dy, part in inside:
        # A pop takes back the font of each part, so none is in force ahead of the next one.
        lines.extend(["push"] + _moved("right", dx) + _moved("down", -dy) + _box_lines(part) + ["pop"])
    return lines


def _word_lines(parts):
    """Returns the list of the lines of the signs of a word."""
    lines = []
    font = None
    end = 0
    for dx, _, sign in parts:
        lines.extend(_moved("right", dx - end))
        shown = _box_lines(sign)
        # The sign before may have put the font in force already.
        lines.extend(shown[1:] if sign[4][0] == font else shown)
        font = sign[4][0]
        end = dx + sign[1]
    return lines


def _moved(command, k):
    """Returns the list of the line that moves the pen by k, if it has to move."""
    return [command + " " + str(k)] if k != 0 else []


def _numbers(w, h, d):
    """Returns the three sizes of a box in writing."""
    return str(w) + " " + str(h) + " " + str(d)


def _ink_of(leaf, page, x, y):
    """Returns what is drawn for a leaf at a place of a page."""
    kind, w, h, d, inside = leaf
    if kind == "sign":
        return ("sign", page, x, y, inside[0], inside[1])
    if kind == "bar":
        return ("bar", page, x, y, w, h, d)
    return ("grow", page, x, y, inside[0], w, h, d)
