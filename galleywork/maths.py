"""The measures of formulas."""

from galleywork.errors import BadMaths

BRACKETS = ("(", ")", "[", "]")
BOUNDS = (
    ("axis", 0, 1000), ("bar", 1, 100), ("space", 0, 1000), ("up", 0, 1000), ("down", 0, 1000),
    ("wide", 0, 1000), ("thin", 0, 1000), ("rootwide", 1, 1000),
)


class MathSize:
    """The measures of formulas of one size."""

    def __init__(self, size, told):
        font, axis, bar, space, up, down, wide, thin, rootwide, brackets = told
        for (what, low, high), length in zip(BOUNDS, told[1:-1]):
            if not low <= length <= high:
                raise BadMaths(size, what)
        if not _good_brackets(brackets):
            raise BadMaths(size, "brackets")
        self.size = size
        self.font = font
        self.axis = axis
        self.bar = bar
        self.space = space
        self.up = up
        self.down = down
        self.wide = wide
        self.thin = thin
        self.rootwide = rootwide
        self.brackets = brackets

    def bracket(self, char, need):
        """Returns the tuple (total, width) of the bracket for a needed total."""
        widest = self.rootwide
        for told_char, total, width in self.brackets:
            if told_char == char:
                if total >= need:
                    return (total, width)
                widest = width
        return (need, widest)


def _good_brackets(brackets):
    """Tells whether told brackets keep their rule."""
    for char, total, width in brackets:
        if char not in BRACKETS or not 1 <= total <= 1000 or not 1 <= width <= 1000:
            return False
    keys = [(row[0], row[1]) for row in brackets]
    return all([keys[k] < keys[k + 1] for k in range(len(keys) - 1)])
