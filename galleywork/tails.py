"""Tails: what is known of the ends of a pages' task, kept for later tasks with the same ends."""

from galleywork.ways import least_step


class Solution:
    """What a pages' task gives that is solved with a Tails."""

    def __init__(self, way, paper, worked, tails):
        self.way = way
        self.paper = paper
        self.worked = worked
        self.tails = tails


class Tails:
    """The told tuples of a pages' task, and a table from numbers left to pairs (togo, steps)."""

    def __init__(self, units, floats, lines, table):
        self.units = tuple(units)
        self.floats = tuple(floats)
        self.lines = tuple(lines)
        self.table = {left: table[left] for left in table}

    @staticmethod
    def none():
        """Returns an empty Tails."""
        return Tails((), (), (), {})

    def solved(self, task):
        """Returns the Solution of a pages' task."""
        table = self._holding(task)
        steps = _reached_steps(task, table)
        numbers = {}
        worked = 0
        # Each step leaves less, so the togo of the state behind it is known by then.
        for left in sorted(list(steps), key=sum):
            if left in table:
                numbers[left] = table[left][0]
            else:
                numbers[left] = 0 if sum(left) == 0 else least_step(steps[left], numbers)[0]
                table[left] = (numbers[left], steps[left])
                worked += 1
        states = sorted([_state_of(task, left) for left in steps])
        paper = tuple([(state, numbers[_left_at(task, state)]) for state in states])
        way = _first_way(task, steps, numbers)
        return Solution(way, paper, worked, Tails(task.units, task.floats, task.lines, table))

    def _holding(self, task):
        """Returns the dict of the entries that hold for a task."""
        most_units = common_tail(self.units, task.units)
        most_floats = common_tail(self.floats, task.floats)
        most_lines = common_tail(self.lines, task.lines)
        found = {}
        for left in self.table:
            if left[0] <= most_units and left[1] <= most_floats and left[2] <= most_lines:
                found[left] = self.table[left]
        return found


def common_tail(one, two):
    """Returns the length of the longest common ending of two lists or tuples."""
    most = min(len(one), len(two))
    k = 0
    while k < most and one[-1 - k] == two[-1 - k]:
        k += 1
    return k


def _left_at(task, state):
    """Returns the numbers left at a state."""
    return (len(task.units) - state[0], len(task.floats) - state[1], len(task.lines) - state[2])


def _state_of(task, left):
    """Returns the state with these numbers left."""
    # The numbers that are left and those that are set add up to the same.
    return _left_at(task, left)


def _reached_steps(task, table):
    """Returns the dict from the numbers left at each reached state to the tuple of the steps from there."""
    first = _left_at(task, task.first())
    found = {}
    seen = {first: True}
    waiting = [first]
    while waiting:
        left = waiting.pop()
        found[left] = table[left][1] if left in table else _own_steps(task, left)
        for _, after in found[left]:
            if after not in seen:
                seen[after] = True
                waiting.append(after)
    return found


def _own_steps(task, left):
    """Returns the steps of a task where these numbers are left."""
    n, m, q = (len(task.units), len(task.floats), len(task.lines))
    return tuple([(cost, (n - b, m - f, q - s)) for cost, (b, f, s) in task.steps(_state_of(task, left))])


def _first_way(task, steps, numbers):
    """Returns the first least way of a task, or None if there is no way."""
    left = _left_at(task, task.first())
    if numbers[left] is None:
        return None
    way = [_state_of(task, left)]
    while sum(left) > 0:
        left = least_step(steps[left], numbers)[1]
        way.append(_state_of(task, left))
    return tuple(way)
