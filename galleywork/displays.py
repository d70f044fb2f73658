"""Setting displays: formulas that are broken into lines of their own."""

from galleywork.badness import badness
from galleywork.errors import NoSign, TooWide
from galleywork.evened import framed_line
from galleywork.formboxes import formula_box, missing_sign
from galleywork.formkinds import gap_between, kinds_of
from galleywork.formparts import row_box
from galleywork.paragraphs import Paragraph, ends_of, lines_of
from galleywork.ways import Task, solve

OPERATOR_COST = 400
BREAKING = ("rel", "oper")


class DisplayTask(Task):
    """The task whose states (k,) mean that k items of a row are set."""

    def __init__(self, works, style, row):
        self._font = works.book.font_of(style.font)
        self._style = style
        self._math = works.book.math_of(0)
        self._kinds = kinds_of(row[1])
        self._boxes = [formula_box(works.book, item, 0) for item in row[1]]
        self._count = len(self._boxes)
        self._lefts = self._left_edges()

    def first(self):
        """Returns the first state."""
        return (0,)

    def is_end(self, state):
        """Tells whether a state is the end."""
        return state == (self._count,)

    def steps(self, state):
        """Returns the list of the steps from a state."""
        i = state[0]
        room = self._style.measure - (self._style.indent if i > 0 else 0)
        found = []
        for j in range(i + 1, self._count + 1):
            if self._is_state(j):
                slack = room - self._width(i, j)
                if slack < 0:
                    # A longer piece is not less wide.
                    break
                found.append((self._step_cost(j, slack), (j,)))
        return found

    def rank(self, state):
        """Returns the rank of a state."""
        return state[0]

    def are_states(self, values):
        """Tells whether all tuples of a list are states."""
        return all([self._is_state(value[0]) for value in values])

    def piece_box(self, i, j):
        """Returns the box of the piece from i to j."""
        return row_box(self._math, self._boxes[i:j], self._kinds[i:j])

    def _left_edges(self):
        """Returns the list of the places of the items in the whole row."""
        lefts = []
        x = 0
        for k in range(self._count):
            if k > 0:
                x += gap_between(self._math, self._kinds[k - 1], self._kinds[k])
            lefts.append(x)
            x += self._boxes[k][1]
        return lefts

    def _width(self, i, j):
        """Returns the width of the piece from i to j."""
        return self._lefts[j - 1] + self._boxes[j - 1][1] - self._lefts[i]

    def _is_state(self, k):
        """Tells whether (k,) is a state."""
        if k == 0 or k == self._count:
            return True
        return 0 < k < self._count and self._kinds[k - 1] in BREAKING

    def _step_cost(self, j, slack):
        """Returns the cost of a piece that ends at j and leaves a slack."""
        if j == self._count:
            return 100
        bad = badness(slack, 3 * self._font.leading)
        cost = (10 + bad) * (10 + bad)
        return cost + OPERATOR_COST if self._kinds[j - 1] == "oper" else cost


def set_display(works, style, row, block):
    """Returns the paragraph of a row that is set as a display."""
    missing = missing_sign(works.book, row, 0)
    if missing is not None:
        raise NoSign(missing, block)
    task = DisplayTask(works, style, row)
    way, paper = solve(task)
    if way is None:
        raise TooWide(block)
    ends = ends_of(way)
    pieces = [task.piece_box(i, j) for i, j in lines_of(ends)]
    font = works.book.font_of(style.font)
    boxes = []
    for k, piece in enumerate(pieces):
        x = 0 if k == 0 else style.indent
        if len(pieces) == 1:
            x = (style.measure - piece[1]) // 2
        boxes.append(framed_line(font, style.measure, [(x, 0, piece)]))
    return Paragraph(way, paper, ends, tuple(boxes))
