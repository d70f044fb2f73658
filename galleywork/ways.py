"""Tasks, and the ways of least cost through them."""

from heapq import heappop, heappush

from galleywork.errors import BadTask


class Task:
    """The base class of all tasks."""

    def are_states(self, values):
        """Tells whether all values of a list, which have the form of the states, are states."""
        known = {state: True for state in reached(self)}
        return all([value in known for value in values])


class TableTask(Task):
    """A task that is given by rows of steps."""

    def __init__(self, rows):
        copied = [[(cost, after) for cost, after in row] for row in rows]
        if not copied:
            raise BadTask(0)
        for k, row in enumerate(copied):
            for cost, after in row:
                if cost < 0 or not k < after < len(copied):
                    raise BadTask(k)
        self._rows = copied

    def first(self):
        """Returns the first state."""
        return 0

    def is_end(self, state):
        """Tells whether a state is the end."""
        return state == len(self._rows) - 1

    def steps(self, state):
        """Returns the list of the steps from a state."""
        return list(self._rows[state])

    def rank(self, state):
        """Returns the rank of a state."""
        return state

    def are_states(self, values):
        """Tells whether all integers of a list are states."""
        return all([0 <= value < len(self._rows) for value in values])


def reached(task):
    """Returns the ascending list of all reached states."""
    return sorted(_by_rank(task))


def togo(task):
    """Returns the dict from each reached state to the least cost of a way from it, or None."""
    numbers = {}
    for state in reversed(_by_rank(task)):
        numbers[state] = 0 if task.is_end(state) else least_step(task.steps(state), numbers)[0]
    return numbers


def solve(task):
    """Returns the first least way, or None, and the paper."""
    numbers = togo(task)
    paper = tuple([(state, numbers[state]) for state in sorted(list(numbers))])
    state = task.first()
    if numbers[state] is None:
        return (None, paper)
    way = [state]
    while not task.is_end(state):
        state = least_step(task.steps(state), numbers)[1]
        way.append(state)
    return (tuple(way), paper)


def way_cost(task, way):
    """Returns the cost of a way from the first state, or None if it is no such way."""
    if not way or way[0] != task.first():
        return None
    total = 0
    for k in range(len(way) - 1):
        costs = [cost for cost, after in task.steps(way[k]) if after == way[k + 1]]
        if not costs:
            return None
        total += min(costs)
    return total if task.is_end(way[-1]) else None


def least_step(steps, numbers):
    """Returns the least togo by one of the steps, and the next state of the first such step."""
    least = None
    best = None
    for cost, after in steps:
        number = numbers[after]
        if number is not None and (least is None or cost + number < least):
            least = cost + number
            best = after
    return (least, best)


def _by_rank(task):
    """Returns the list of all reached states, those of lesser rank first."""
    # No step leads to a lesser rank, so nothing is added ahead of what is taken.
    first = task.first()
    queue = [(task.rank(first), first)]
    seen = {first: True}
    found = []
    while queue:
        _, state = heappop(queue)
        found.append(state)
        for _, after in task.steps(state):
            if after not in seen:
                seen[after] = True
                heappush(queue, (task.rank(after), after))
    return found
