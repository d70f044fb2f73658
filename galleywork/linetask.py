"""The task of breaking a paragraph into lines."""

from galleywork.badness import badness, line_class
from galleywork.places import AT_CUT, AT_END, AT_HYPHEN, IN_WIDE_CHUNK
from galleywork.ways import Task

DECENT = 1
LAST_CLASS = 3
IN_WORDS = (AT_HYPHEN, IN_WIDE_CHUNK)
HYPHEN_COST = 2500
WIDE_COST = 1000000
TWICE_COST = 3000
JUMP_COST = 3000


def line_cost(strip, i, j, glue):
    """Returns the tuple (class, cost) of a line with this glue, or None if it does not fit."""
    bad = _line_badness(strip, j, glue)
    if bad is None:
        return None
    cost = (10 + bad) * (10 + bad)
    end = strip.kind(j)
    if end == AT_HYPHEN:
        cost += HYPHEN_COST
    if end == IN_WIDE_CHUNK:
        cost += WIDE_COST
    if end in IN_WORDS and strip.kind(i) in IN_WORDS:
        cost += TWICE_COST
    return (line_class(strip.measure - glue.natural, bad), cost)


class LineTask(Task):
    """The task whose states (k, c) mean that a line of class c ends at position k."""

    def __init__(self, strip):
        self._strip = strip
        self._asked = None
        self._lines = []

    def first(self):
        """Returns the first state."""
        return (0, DECENT)

    def is_end(self, state):
        """Tells whether a state is the end."""
        return state == (self._strip.count, DECENT)

    def steps(self, state):
        """Returns the list of the steps from a state."""
        i, ahead = state
        if self._asked != i:
            # States of one position are mostly asked one after the other, and their lines are the same.
            self._lines = self.lines_from(i)
            self._asked = i
        found = []
        for j, own, cost in self._lines:
            jump = JUMP_COST if abs(ahead - own) > 1 else 0
            found.append((cost + jump, (j, own if j < self._strip.count else DECENT)))
        return found

    def rank(self, state):
        """Returns the rank of a state."""
        return state[0]

    def are_states(self, values):
        """Tells whether all pairs of a list are states."""
        return all([self.is_end(value) or self._is_inner(value[0], value[1]) for value in values])

    def lines_from(self, i):
        """Returns the list of the tuples (j, class, cost) of the lines from i, ascending by j."""
        found = []
        for j in self._strip.places():
            if j > i:
                line = line_cost(self._strip, i, j, self._strip.glue(i, j))
                if line is not None:
                    found.append((j, line[0], line[1]))
                if self._strip.kind(j) == AT_CUT:
                    break
        return found

    def _is_inner(self, k, c):
        """Tells whether (k, c) is a state of a position ahead of the end."""
        if not 0 <= k < self._strip.count or not 0 <= c <= LAST_CLASS:
            return False
        return k == 0 or self._strip.kind(k) is not None


def _line_badness(strip, j, glue):
    """Returns the badness of a line that ends at j, or None if it does not fit."""
    style = strip.style
    slack = strip.measure - glue.natural
    if style.align == "full":
        if glue.least > strip.measure:
            return None
        room = glue.stretch
    else:
        if slack < 0:
            return None
        room = 3 * strip.works.book.font_of(style.font).leading
    if slack < 0:
        return badness(-slack, glue.shrink)
    if strip.kind(j) == AT_CUT or strip.kind(j) == AT_END:
        return 0
    return badness(slack, room)
