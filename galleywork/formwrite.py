"""Formulas: writing a tree back to text."""


def write_formula(row):
    """Returns the written form of a row, without braces around the whole."""
    return "".join([_written_tree(item) for item in row[1]])


def write_cells(rows):
    """Returns the written form of rows of written cells."""
    return " \\\\ ".join([" & ".join(row) for row in rows])


def _written_tree(tree):
    """Returns the written form of a tree."""
    kind = tree[0]
    if kind == "sign":
        return tree[1]
    if kind == "row":
        return _group(tree)
    if kind == "script":
        return _written_script(tree)
    if kind == "fence":
        return "\\fence{" + (tree[1] or ".") + (tree[2] or ".") + "}" + _group(tree[3])
    if kind == "grid":
        return "\\grid{" + write_cells([[write_formula(cell) for cell in row] for row in tree[1]]) + "}"
    return "\\" + kind + "".join([_group(part) for part in tree[1:]])


def _group(row):
    """Returns the written form of a row with braces around it."""
    return "{" + write_formula(row) + "}"


def _written_script(tree):
    """Returns the written form of a script."""
    _, base, upper, lower = tree
    parts = _written_tree(base)
    if upper is not None:
        parts += "^" + _written_tree(upper)
    if lower is not None:
        parts += "_" + _written_tree(lower)
    return parts
