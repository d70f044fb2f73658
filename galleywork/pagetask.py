"""The task of breaking a text into pages."""

from galleywork.badness import badness
from galleywork.glue import Glue
from galleywork.units import MUST
from galleywork.ways import Task

FLOAT_WAITS = 5000
LINES_WAIT = 2000
LINE_WAITS = 100
NOTE_WAITS = 1000000000
NO_UNITS = 4000


class PageTask(Task):
    """The task whose states (b, f, s) mean that b units, f floats and s note lines are set."""

    def __init__(self, units, floats, lines, *, height, floats_a_page=1, rule=1, float_gap=1):
        self.units = tuple(units)
        self.floats = tuple(floats)
        self.lines = tuple(lines)
        self._end = (len(self.units), len(self.floats), len(self.lines))
        self._height = height
        self._most_floats = floats_a_page
        self._rule = rule
        # What all units, floats or note lines ahead of an index add up to.
        self._unit_heights = _sums([unit[0] for unit in self.units])
        self._gaps = [_sums([unit[1][k] for unit in self.units]) for k in range(3)]
        self._float_heights = _sums([one[0] + float_gap for one in self.floats])
        self._line_heights = _sums([line[0] for line in self.lines])
        self._openings = _sums([1 if line[1] else 0 for line in self.lines])
        self._due_floats = _due_counts([one[1] for one in self.floats], len(self.units))
        self._due_lines = _due_counts([line[2] for line in self.lines], len(self.units))
        self._page_ends = _page_ends(self.units)
        # Behind the last unit no page begins with a unit.
        self._new_pages = [unit[2] == MUST for unit in self.units] + [False]
        self._begin_costs = [0 if unit[2] == MUST else unit[2] * unit[2] for unit in self.units] + [0]

    def first(self):
        """Returns the first state."""
        return (0, 0, 0)

    def is_end(self, state):
        """Tells whether a state is the end."""
        return state == self._end

    def steps(self, state):
        """Returns the list of the steps from a state."""
        b, f, s = state
        found = []
        for to_b in range(b, self._page_ends[b] + 1):
            plain, stretch, shrink = self._units_glue(b, to_b)
            # Here and below: where something does not fit, more of it does not fit either.
            if plain - shrink > self._height:
                break
            for to_f in range(f, self._last_float(f, to_b) + 1):
                with_floats = plain + self._float_heights[to_f] - self._float_heights[f]
                if with_floats - shrink > self._height:
                    break
                for to_s in range(s, self._last_line(s, to_b) + 1):
                    natural = with_floats + self._foot(s, to_s)
                    if natural - shrink > self._height:
                        break
                    after = (to_b, to_f, to_s)
                    if after != state:
                        found.append((self._cost(state, after, natural, stretch, shrink), after))
        return found

    def rank(self, state):
        """Returns the rank of a state."""
        return sum(state)

    def are_states(self, values):
        """Tells whether all triples of a list are states."""
        return all([0 <= number <= end for value in values for number, end in zip(value, self._end)])

    def page_glue(self, a, b):
        """Returns the glue of the page from state a to state b."""
        plain, stretch, shrink = self._units_glue(a[0], b[0])
        floats = self._float_heights[b[1]] - self._float_heights[a[1]]
        return Glue(plain + floats + self._foot(a[2], b[2]), stretch, shrink)

    def loose(self, b):
        """Tells whether a state is loose."""
        return self._new_pages[b[0]] or b == self._end

    def page_cost(self, a, b):
        """Returns the cost of the page from state a to state b, or None if there is no such page."""
        if a == b or not a[0] <= b[0] <= self._page_ends[a[0]]:
            return None
        if not a[1] <= b[1] <= self._last_float(a[1], b[0]):
            return None
        if not a[2] <= b[2] <= self._last_line(a[2], b[0]):
            return None
        glue = self.page_glue(a, b)
        if glue.least > self._height:
            return None
        return self._cost(a, b, glue.natural, glue.stretch, glue.shrink)

    def _last_float(self, f, b):
        """Returns the greatest number of floats that may be set behind a page that begins behind f of them."""
        return max(f, min(f + self._most_floats, self._due_floats[b]))

    def _last_line(self, s, b):
        """Returns the greatest number of note lines that may be set behind a page that begins behind s of them."""
        return max(s, self._due_lines[b])

    def _units_glue(self, start, end):
        """Returns the three numbers of the glue of units[start:end], the gap of the first one left out."""
        if start == end:
            return (0, 0, 0)
        natural, stretch, shrink = [sums[end] - sums[start + 1] for sums in self._gaps]
        return (self._unit_heights[end] - self._unit_heights[start] + natural, stretch, shrink)

    def _foot(self, start, end):
        """Returns the height of lines[start:end] with the rule above them."""
        return self._rule + self._line_heights[end] - self._line_heights[start] if end > start else 0

    def _cost(self, a, b, natural, stretch, shrink):
        """Returns the cost of the page from a to b, whose glue has these three numbers."""
        slack = self._height - natural
        if slack < 0:
            bad = badness(-slack, shrink)
        else:
            bad = 0 if self.loose(b) else badness(slack, stretch)
        begin = self._begin_costs[b[0]] if b[0] > a[0] else NO_UNITS
        return (10 + bad) * (10 + bad) + begin + self._waiting_cost(b)

    def _waiting_cost(self, b):
        """Returns the cost of the floats and note lines that are due at a state and wait."""
        floats = self._due_floats[b[0]] - b[1]
        cost = FLOAT_WAITS * floats if floats > 0 else 0
        due = self._due_lines[b[0]]
        if due > b[2]:
            cost += LINES_WAIT + LINE_WAITS * (due - b[2])
            cost += NOTE_WAITS * (self._openings[due] - self._openings[b[2]])
        return cost


def _sums(numbers):
    """Returns the list of the sums of the first 0, 1, 2 .. numbers."""
    sums = [0]
    for number in numbers:
        sums.append(sums[-1] + number)
    return sums


def _due_counts(behinds, count):
    """Returns for each number of units, up to count, how many floats or note lines are due when these are set."""
    found = []
    due = 0
    for b in range(count + 1):
        # The numbers behind do not rise, so those that are due stand first.
        while due < len(behinds) and behinds[due] >= count - b:
            due += 1
        found.append(due)
    return found


def _page_ends(units):
    """Returns for each number of units the greatest number of units that may be set behind the next page."""
    ends = [len(units)] * (len(units) + 1)
    for b in reversed(range(len(units) - 1)):
        ends[b] = b + 1 if units[b + 1][2] == MUST else ends[b + 1]
    return ends
