"""Listings: where the lines of pages stand and what they say."""

from galleywork.boxes import is_leaf, leaves


def line_rows(page):
    """Returns the list of the rows (x, y, letters) of the lines of a page."""
    rows = []
    waiting = [(0, 0, page)]
    while waiting:
        x, y, box = waiting.pop()
        if box[0] == "line":
            rows.append(_line_row(x, y, box[4]))
        elif not is_leaf(box):
            # The last one that is put there is taken first.
            for dx, dy, part in reversed(box[4]):
                waiting.append((x + dx, y + dy, part))
    return rows


def show_page(number, page):
    """Returns the listed page."""
    lines = ["page" + str(number).rjust(5)]
    for x, y, letters in line_rows(page):
        lines.append(str(y).rjust(6) + str(x).rjust(6) + "  " + letters)
    return "\n".join(lines)


def show_pages(pages):
    """Returns the listed pages with the numbers from 1 on."""
    return "\n".join([show_page(k + 1, page) for k, page in enumerate(pages)])


def _line_row(x, y, parts):
    """Returns the row of a line at (x, y) with these parts."""
    letters = ""
    end = None
    for dx, _, part in parts:
        if end is not None and dx > end:
            letters += " "
        letters += _letters_of(part)
        end = dx + part[1]
    return (x + parts[0][0] if parts else x, -y, letters)


def _letters_of(part):
    """Returns what the leaves of a part stand for."""
    texts = []
    for _, _, leaf in leaves(part, 0, 0):
        if leaf[0] == "sign":
            texts.append(leaf[4][2])
        elif leaf[0] == "grow":
            texts.append(leaf[4][0])
    return "".join(texts)
