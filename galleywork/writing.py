"""Writing inlines and blocks back to text."""

from galleywork.formwrite import write_cells, write_formula

SIGNS = {"gap": " ", "tie": "~", "hyph": "\\-", "cut": "\\\\"}


def write_inlines(inlines):
    """Returns the written form of a tuple of inlines, none of them resolved."""
    return "".join([_written_inline(inline) for inline in inlines])


def _written_inline(inline):
    """Returns the written form of one inline."""
    kind = inline[0]
    if kind in SIGNS:
        return SIGNS[kind]
    if kind == "word":
        return inline[1]
    if kind == "formula":
        return "$" + write_formula(inline[1]) + "$"
    if kind == "strong" or kind == "note":
        return _command(kind, [write_inlines(inline[1])])
    return _command(kind, [inline[1]])


def write_blocks(blocks):
    """Returns the written form of a list of blocks, none of them resolved."""
    return "\n\n".join([_written_block(block) for block in blocks])


def _written_block(block):
    """Returns the written form of one block."""
    kind = block[0]
    if kind == "par":
        return write_inlines(block[1])
    if kind == "newpage":
        return _command(kind, [])
    if kind == "display":
        return _command(kind, [write_formula(block[1])])
    if kind == "table":
        widths = " ".join([str(width) for width in block[1]])
        cells = write_cells([[write_inlines(cell) for cell in row] for row in block[2]])
        return _command(kind, [widths, cells])
    if kind == "float":
        return _command(kind, [str(block[1]), write_inlines(block[2])])
    return _command(kind, [write_inlines(block[1])])


def _command(name, insides):
    """Returns a command with groups that have these insides."""
    return "\\" + name + "".join(["{" + inside + "}" for inside in insides])
