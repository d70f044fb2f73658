"""The judge, who decides from a paper whether a way is a least one."""

from galleywork.ways import way_cost


def judge(task, way, paper):
    """Tells whether a paper shows that a way, or None, is a least way of a task."""
    if not _good_pairs(task, paper):
        return False
    numbers = {state: number for state, number in paper}
    first = task.first()
    if first not in numbers:
        return False
    if not all([_good_state(task, state, numbers) for state in numbers]):
        return False
    if way is None:
        return numbers[first] is None
    cost = way_cost(task, way)
    return cost is not None and cost == numbers[first]


def _good_pairs(task, paper):
    """Tells whether a paper has ascending states of the task, and numbers that may stand there."""
    states = [state for state, _ in paper]
    ascending = [states[k] < states[k + 1] for k in range(len(states) - 1)]
    numbers = [number is None or isinstance(number, int) and number >= 0 for _, number in paper]
    return all(ascending) and task.are_states(states) and all(numbers)


def _good_state(task, state, numbers):
    """Tells whether the number of a state fits to those behind its steps."""
    if task.is_end(state):
        return numbers[state] == 0
    return all([_good_step(numbers[state], cost, after, numbers) for cost, after in task.steps(state)])


def _good_step(number, cost, after, numbers):
    """Tells whether a number is not above what a step and the number of its next state cost."""
    if after not in numbers:
        return False
    if numbers[after] is None:
        return True
    return number is not None and number <= cost + numbers[after]
