"""Lines with their gaps stretched or shrunk."""

from galleywork.content import box_of
from galleywork.places import AT_CUT, AT_END


def even_gaps(glues, slack, stretching):
    """Returns the list of the widths of glues for a slack."""
    if slack > 0 and stretching:
        shares = _shares([glue.stretch for glue in glues], slack)
        return [glue.natural + share for glue, share in zip(glues, shares)]
    if slack < 0:
        shares = _shares([glue.shrink for glue in glues], -slack)
        return [glue.natural - share for glue, share in zip(glues, shares)]
    return [glue.natural for glue in glues]


def gap_widths(strip, i, j):
    """Returns the list of the widths of the gaps of a line that fits."""
    glues = [strip.works.book.font_of(piece[1]).gap for piece in strip.content(i, j) if piece[0] == "gap"]
    at_an_end = strip.kind(j) == AT_CUT or strip.kind(j) == AT_END
    slack = strip.measure - strip.glue(i, j).natural
    return even_gaps(glues, slack, strip.style.align == "full" and not at_an_end)


def line_box(strip, i, j):
    """Returns the box of a line that fits."""
    gaps = gap_widths(strip, i, j)
    parts = []
    x = _left_edge(strip, i, j)
    past = 0
    for piece in strip.content(i, j):
        if piece[0] == "gap":
            x += gaps[past]
            past += 1
        else:
            box = box_of(strip.works, piece)
            parts.append((x, 0, box))
            x += box[1]
    return framed_line(strip.works.book.font_of(strip.style.font), strip.measure, parts)


def framed_line(font, measure, parts):
    """Returns the box of a line, which is at least as high and as deep as a font asks for."""
    h = max([font.above] + [box[2] for _, _, box in parts])
    d = max([font.below] + [box[3] for _, _, box in parts])
    return ("line", measure, h, d, tuple(parts))


def _left_edge(strip, i, j):
    """Returns the x at which the first piece of a line begins."""
    slack = strip.measure - strip.glue(i, j).natural
    x = strip.style.indent if i == 0 else 0
    if strip.style.align == "centre":
        x += slack // 2
    if strip.style.align == "right":
        x += slack
    return x


def _shares(parts, amount):
    """Returns the list of the shares of an amount, in proportion to the parts, rounded so that they add up to it."""
    total = sum(parts)
    shares = []
    run = 0
    for part in parts:
        share = 0
        if total > 0:
            share = amount * (run + part) // total - amount * run // total
        shares.append(share)
        run += part
    return shares
