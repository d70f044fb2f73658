"""Soundness: parts that lie inside their box and do not overlap."""

from galleywork.boxes import is_leaf, rect

WORDS = ("word", "parted")


def sound(box):
    """Tells whether a box is sound."""
    waiting = [box]
    while waiting:
        taken = waiting.pop()
        if not is_leaf(taken) and taken[0] not in WORDS:
            edges = [rect(part, dx, dy) for dx, dy, part in taken[4]]
            whole = rect(taken, 0, 0)
            if not all([_lies_in(inner, whole) for inner in edges]) or _meet(edges):
                return False
            waiting.extend([part for _, _, part in taken[4]])
    return True


def _lies_in(inner, outer):
    """Tells whether a rectangle lies in another one; edges may meet."""
    left, low, right, high = inner
    return outer[0] <= left and outer[1] <= low and right <= outer[2] and high <= outer[3]


def _meet(edges):
    """Tells whether the insides of two of the rectangles meet."""
    events = []
    for left, low, right, high in edges:
        if left < right and low < high:
            events.append((left, 1, low, high))
            events.append((right, 0, low, high))
    # From left to right; at one x those that end come before those that begin. The heights of the rectangles that
    # have begun and not ended never meet, so they have an order, and only neighbours have to be compared.
    begun = []
    for _, begins, low, high in sorted(events):
        at = _place_of(begun, low)
        if begins == 0:
            del begun[at]
        elif at > 0 and begun[at - 1][1] > low or at < len(begun) and begun[at][0] < high:
            return True
        else:
            begun.insert(at, (low, high))
    return False


def _place_of(begun, low):
    """Returns the index of the first of the ascending pairs whose lower edge is not below low."""
    start = 0
    end = len(begun)
    while start < end:
        middle = (start + end) // 2
        if begun[middle][0] < low:
            start = middle + 1
        else:
            end = middle
    return start
